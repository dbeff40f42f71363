/- Contracts. -/
import Derived.Deep.CutRange
import Derived.Test.YtnfigjggjmncdaaGreatC2
import Derived.Test.YtnfigjggjmncdaaGreatE5
set_option maxRecDepth 100000
set_option maxHeartbeats 4000000
namespace Go.Proofs.YtnfigjggjmncdaaGreat
section
open Go.RowKit Go.Sort Spans Op
theorem rzero_is (s:LU) (hs:s.length<=1000) (b:Bool) (hb:(zeroEnd s).isSome=b) (w:World):Calls Tryz.prog 120 #[.string ⟨s.toArray⟩] w fun e w'=>e=.returned (.bool b)/\Grown w w':=by
 subst hb;exact rzero_at s hs w
theorem rends_N00 (n:LU) (lo hi:Int) (ha:¬((-9223372036854775808)<lo)) (hb:¬(hi<9223372036854775807)) (A:OA) (m c:Nat) (w:World):
  Calls Tryz.prog 88 #[.string ⟨n.toArray⟩,.agg (sC 1 lo hi #[] #[] false A m c)] w (GivesQ w []):=by
 have d1:decide ((-9223372036854775808)<lo)=false:=decide_eq_false ha
 have d2:decide (hi<9223372036854775807)=false:=decide_eq_false hb
 clear ha hb
 have X:=Jh (Blk.new w 97 (sC 1 lo hi #[] #[] false A m c))
 have BB:=Jh (gr1 w (.cells (sC 1 lo hi #[] #[] false A m c) 97)).below
 have O:Hid (OwnQ (w.alloc (.cells (sC 1 lo hi #[] #[] false A m c) 97)) (w.heap.size+1) (.slice none 0 0) []):=OwnK.none_ _ _
 go_enter Tryz.func88,Tryz.ntmps88
 skip
 obtain⟨a0,a1,a2,a3,a4,a5,a6,_⟩:=blk7 X.o
 have hlX:=X.o.lt
 go_wp2_with fail
 go_ret
 exact⟨_,rfl,(show OwnK layP _ _ _ [] from O.o.less (Nat.le_succ w.heap.size)),BB.o⟩
theorem rends_N01 (n:LU) (lo hi:Int) (ha:¬((-9223372036854775808)<lo)) (hb:(hi<9223372036854775807)) (A:OA) (m c:Nat) (w:World):
  Calls Tryz.prog 88 #[.string ⟨n.toArray⟩,.agg (sC 1 lo hi #[] #[] false A m c)] w (GivesQ w [⟨n,4,1,hi,[]⟩]):=by
 have d1:decide ((-9223372036854775808)<lo)=false:=decide_eq_false ha
 have d2:decide (hi<9223372036854775807)=true:=decide_eq_true hb
 clear ha hb
 have X:=Jh (Blk.new w 97 (sC 1 lo hi #[] #[] false A m c))
 have BB:=Jh (gr1 w (.cells (sC 1 lo hi #[] #[] false A m c) 97)).below
 have O:Hid (OwnQ (w.alloc (.cells (sC 1 lo hi #[] #[] false A m c) 97)) (w.heap.size+1) (.slice none 0 0) []):=OwnK.none_ _ _
 go_enter Tryz.func88,Tryz.ntmps88
 skip
 obtain⟨a0,a1,a2,a3,a4,a5,a6,_⟩:=blk7 X.o
 have hlX:=X.o.lt
 have hrx1:=rdk_one layP (w.alloc (.cells (sC 1 lo hi #[] #[] false A m c) 97)) ⟨n,4,1,hi,[]⟩ 54 (pC n.toArray 4 1 hi #[]) rfl
 have hbx1:Below (w.alloc (.cells (sC 1 lo hi #[] #[] false A m c) 97)).heap.size (w.alloc (.cells (sC 1 lo hi #[] #[] false A m c) 97)) ((w.alloc (.cells (sC 1 lo hi #[] #[] false A m c) 97)).alloc (.cells (pC n.toArray 4 1 hi #[]) 54)):=(gr1 (w.alloc (.cells (sC 1 lo hi #[] #[] false A m c) 97)) _).below
 have ho1:=OwnK.below O.o hbx1
 have hs1:w.heap.size+1<=((w.alloc (.cells (sC 1 lo hi #[] #[] false A m c) 97)).alloc (.cells (pC n.toArray 4 1 hi #[]) 54)).heap.size:=by have h1:=hbx1.size;have h2:=X.o.lt;omega
 have hbb1:Below (w.heap.size+1) (w.alloc (.cells (sC 1 lo hi #[] #[] false A m c) 97)) ((w.alloc (.cells (sC 1 lo hi #[] #[] false A m c) 97)).alloc (.cells (pC n.toArray 4 1 hi #[]) 54)):=hbx1.mono (by have h2:=X.o.lt;omega)
 rw[show (w.alloc (.cells (sC 1 lo hi #[] #[] false A m c) 97)).heap.size=w.heap.size+1 by simp] at hrx1
 go_wp2_with (first | (at_builtin;refine wpList_append_k layP (by rfl) (.tmp 30) (.tmp 36) 26 underQ rfl (w.heap.size+1) _ ([]) (by rfl) ho1 _ [⟨n,4,1,hi,[]⟩] 1 1 (by rfl) hrx1 rfl (by rw[maxLen_num];show 0+1<=_;omega) (by show (0+1)*56<=_;omega) hs1 ?_;intro v1 x1 o1 b1 g1 l1;have hB1:=b1 _ hbb1;have hX1:=Blk.below X.o hB1 (Nat.lt_succ_self _);obtain⟨a0,a1,a2,a3,a4,a5,a6,_⟩:=blk7 hX1;have hlX:=hX1.lt;clear hrx1 hs1 ho1 b1 g1 l1))
 replace X:=Jh hX1
 replace BB:=Jh (BB.o.trans (hB1.mono (Nat.le_succ _)))
 replace O:=Jh o1
 clear hX1 hB1 hbb1 hbx1 o1
 go_ret
 exact⟨_,rfl,(show OwnK layP _ _ _ [⟨n,4,1,hi,[]⟩] from O.o.less (Nat.le_succ w.heap.size)),BB.o⟩
theorem rends_N10 (n:LU) (lo hi:Int) (ha:((-9223372036854775808)<lo)) (hb:¬(hi<9223372036854775807)) (A:OA) (m c:Nat) (w:World):
  Calls Tryz.prog 88 #[.string ⟨n.toArray⟩,.agg (sC 1 lo hi #[] #[] false A m c)] w (GivesQ w [⟨n,6,1,lo,[]⟩]):=by
 have d1:decide ((-9223372036854775808)<lo)=true:=decide_eq_true ha
 have d2:decide (hi<9223372036854775807)=false:=decide_eq_false hb
 clear ha hb
 have X:=Jh (Blk.new w 97 (sC 1 lo hi #[] #[] false A m c))
 have BB:=Jh (gr1 w (.cells (sC 1 lo hi #[] #[] false A m c) 97)).below
 have O:Hid (OwnQ (w.alloc (.cells (sC 1 lo hi #[] #[] false A m c) 97)) (w.heap.size+1) (.slice none 0 0) []):=OwnK.none_ _ _
 go_enter Tryz.func88,Tryz.ntmps88
 skip
 obtain⟨a0,a1,a2,a3,a4,a5,a6,_⟩:=blk7 X.o
 have hlX:=X.o.lt
 have hrx1:=rdk_one layP (w.alloc (.cells (sC 1 lo hi #[] #[] false A m c) 97)) ⟨n,6,1,lo,[]⟩ 54 (pC n.toArray 6 1 lo #[]) rfl
 have hbx1:Below (w.alloc (.cells (sC 1 lo hi #[] #[] false A m c) 97)).heap.size (w.alloc (.cells (sC 1 lo hi #[] #[] false A m c) 97)) ((w.alloc (.cells (sC 1 lo hi #[] #[] false A m c) 97)).alloc (.cells (pC n.toArray 6 1 lo #[]) 54)):=(gr1 (w.alloc (.cells (sC 1 lo hi #[] #[] false A m c) 97)) _).below
 have ho1:=OwnK.below O.o hbx1
 have hs1:w.heap.size+1<=((w.alloc (.cells (sC 1 lo hi #[] #[] false A m c) 97)).alloc (.cells (pC n.toArray 6 1 lo #[]) 54)).heap.size:=by have h1:=hbx1.size;have h2:=X.o.lt;omega
 have hbb1:Below (w.heap.size+1) (w.alloc (.cells (sC 1 lo hi #[] #[] false A m c) 97)) ((w.alloc (.cells (sC 1 lo hi #[] #[] false A m c) 97)).alloc (.cells (pC n.toArray 6 1 lo #[]) 54)):=hbx1.mono (by have h2:=X.o.lt;omega)
 rw[show (w.alloc (.cells (sC 1 lo hi #[] #[] false A m c) 97)).heap.size=w.heap.size+1 by simp] at hrx1
 go_wp2_with (first | (at_builtin;refine wpList_append_k layP (by rfl) (.tmp 14) (.tmp 20) 26 underQ rfl (w.heap.size+1) _ ([]) (by rfl) ho1 _ [⟨n,6,1,lo,[]⟩] 1 1 (by rfl) hrx1 rfl (by rw[maxLen_num];show 0+1<=_;omega) (by show (0+1)*56<=_;omega) hs1 ?_;intro v1 x1 o1 b1 g1 l1;have hB1:=b1 _ hbb1;have hX1:=Blk.below X.o hB1 (Nat.lt_succ_self _);obtain⟨a0,a1,a2,a3,a4,a5,a6,_⟩:=blk7 hX1;have hlX:=hX1.lt;clear hrx1 hs1 ho1 b1 g1 l1))
 replace X:=Jh hX1
 replace BB:=Jh (BB.o.trans (hB1.mono (Nat.le_succ _)))
 replace O:=Jh o1
 clear hX1 hB1 hbb1 hbx1 o1
 go_ret
 exact⟨_,rfl,(show OwnK layP _ _ _ [⟨n,6,1,lo,[]⟩] from O.o.less (Nat.le_succ w.heap.size)),BB.o⟩
theorem rends_N11 (n:LU) (lo hi:Int) (ha:((-9223372036854775808)<lo)) (hb:(hi<9223372036854775807)) (A:OA) (m c:Nat) (w:World):
  Calls Tryz.prog 88 #[.string ⟨n.toArray⟩,.agg (sC 1 lo hi #[] #[] false A m c)] w (GivesQ w [⟨n,6,1,lo,[]⟩,⟨n,4,1,hi,[]⟩]):=by
 have d1:decide ((-9223372036854775808)<lo)=true:=decide_eq_true ha
 have d2:decide (hi<9223372036854775807)=true:=decide_eq_true hb
 clear ha hb
 have X:=Jh (Blk.new w 97 (sC 1 lo hi #[] #[] false A m c))
 have BB:=Jh (gr1 w (.cells (sC 1 lo hi #[] #[] false A m c) 97)).below
 have O:Hid (OwnQ (w.alloc (.cells (sC 1 lo hi #[] #[] false A m c) 97)) (w.heap.size+1) (.slice none 0 0) []):=OwnK.none_ _ _
 go_enter Tryz.func88,Tryz.ntmps88
 skip
 obtain⟨a0,a1,a2,a3,a4,a5,a6,_⟩:=blk7 X.o
 have hlX:=X.o.lt
 have hrx1:=rdk_one layP (w.alloc (.cells (sC 1 lo hi #[] #[] false A m c) 97)) ⟨n,6,1,lo,[]⟩ 54 (pC n.toArray 6 1 lo #[]) rfl
 have hbx1:Below (w.alloc (.cells (sC 1 lo hi #[] #[] false A m c) 97)).heap.size (w.alloc (.cells (sC 1 lo hi #[] #[] false A m c) 97)) ((w.alloc (.cells (sC 1 lo hi #[] #[] false A m c) 97)).alloc (.cells (pC n.toArray 6 1 lo #[]) 54)):=(gr1 (w.alloc (.cells (sC 1 lo hi #[] #[] false A m c) 97)) _).below
 have ho1:=OwnK.below O.o hbx1
 have hs1:w.heap.size+1<=((w.alloc (.cells (sC 1 lo hi #[] #[] false A m c) 97)).alloc (.cells (pC n.toArray 6 1 lo #[]) 54)).heap.size:=by have h1:=hbx1.size;have h2:=X.o.lt;omega
 have hbb1:Below (w.heap.size+1) (w.alloc (.cells (sC 1 lo hi #[] #[] false A m c) 97)) ((w.alloc (.cells (sC 1 lo hi #[] #[] false A m c) 97)).alloc (.cells (pC n.toArray 6 1 lo #[]) 54)):=hbx1.mono (by have h2:=X.o.lt;omega)
 rw[show (w.alloc (.cells (sC 1 lo hi #[] #[] false A m c) 97)).heap.size=w.heap.size+1 by simp] at hrx1
 go_wp2_with (first | (at_builtin;refine wpList_append_k layP (by rfl) (.tmp 14) (.tmp 20) 26 underQ rfl (w.heap.size+1) _ ([]) (by rfl) ho1 _ [⟨n,6,1,lo,[]⟩] 1 1 (by rfl) hrx1 rfl (by rw[maxLen_num];show 0+1<=_;omega) (by show (0+1)*56<=_;omega) hs1 ?_;intro v1 x1 o1 b1 g1 l1;have hB1:=b1 _ hbb1;have hX1:=Blk.below X.o hB1 (Nat.lt_succ_self _);obtain⟨a0,a1,a2,a3,a4,a5,a6,_⟩:=blk7 hX1;have hlX:=hX1.lt;clear hrx1 hs1 ho1 b1 g1 l1;have hrx2:=rdk_one layP x1 ⟨n,4,1,hi,[]⟩ 54 (pC n.toArray 4 1 hi #[]) rfl;have hbx2:Below x1.heap.size x1 (x1.alloc (.cells (pC n.toArray 4 1 hi #[]) 54)):=(gr1 x1 _).below;have ho2:=OwnK.below o1 hbx2;have hs2:w.heap.size+1<=(x1.alloc (.cells (pC n.toArray 4 1 hi #[]) 54)).heap.size:=(by have h1:=hbx2.size;have h2:=hX1.lt;omega);have hbb2:Below (w.heap.size+1) x1 (x1.alloc (.cells (pC n.toArray 4 1 hi #[]) 54)):=hbx2.mono (by have h2:=hX1.lt;omega)) | (at_builtin;refine wpList_append_k layP (by rfl) (.tmp 30) (.tmp 36) 26 underQ rfl (w.heap.size+1) _ ([]++[⟨n,6,1,lo,[]⟩]) (by rfl) ho2 _ [⟨n,4,1,hi,[]⟩] 1 1 (by rfl) hrx2 rfl (by rw[maxLen_num];show 1+1<=_;omega) (by show (1+1)*56<=_;omega) hs2 ?_;intro v2 x2 o2 b2 g2 l2;have hB2:=b2 _ hbb2;have hX2:=Blk.below hX1 hB2 (Nat.lt_succ_self _);obtain⟨a0,a1,a2,a3,a4,a5,a6,_⟩:=blk7 hX2;have hlX:=hX2.lt;clear hrx2 hs2 ho2 b2 g2 l2))
 replace X:=Jh hX2
 replace BB:=Jh ((BB.o.trans (hB1.mono (Nat.le_succ _))).trans (hB2.mono (Nat.le_succ _)))
 replace O:=Jh o2
 go_ret
 exact⟨_,rfl,(show OwnK layP _ _ _ [⟨n,6,1,lo,[]⟩,⟨n,4,1,hi,[]⟩] from O.o.less (Nat.le_succ w.heap.size)),BB.o⟩
theorem rends_3 (n:LU) (lo hi:Int) (A:OA) (m c:Nat) (w:World):
  Calls Tryz.prog 88 #[.string ⟨n.toArray⟩,.agg (sC 3 lo hi #[] #[] false A m c)] w (GivesQ w []):=by
 have X:=Jh (Blk.new w 97 (sC 3 lo hi #[] #[] false A m c))
 have BB:=Jh (gr1 w (.cells (sC 3 lo hi #[] #[] false A m c) 97)).below
 have O:Hid (OwnQ (w.alloc (.cells (sC 3 lo hi #[] #[] false A m c) 97)) (w.heap.size+1) (.slice none 0 0) []):=OwnK.none_ _ _
 go_enter Tryz.func88,Tryz.ntmps88
 skip
 obtain⟨a0,a1,a2,a3,a4,a5,a6,_⟩:=blk7 X.o
 have hlX:=X.o.lt
 go_wp2_with fail
 go_ret
 exact⟨_,rfl,(show OwnK layP _ _ _ [] from O.o.less (Nat.le_succ w.heap.size)),BB.o⟩
structure EG (w wx:World) (cs:Array Value) (v:Value) (l:List Pr) (k:Nat):Prop where
 x:Blk wx w.heap.size 97 cs
 o:OwnQ wx (w.heap.size+1) v l
 b:Below w.heap.size w wx
 l:l.length<=k
theorem EG.grown {w wx wy:World} {cs:Array Value} {v:Value} {l:List Pr} {k:Nat} (h:EG w wx cs v l k) (hg:Grown wx wy):EG w wy cs v l k:=
 ⟨Blk.below h.x hg.below h.x.lt,OwnK.below h.o hg.below,below_next h.b (Jn) hg.below,h.l⟩
theorem EG.to {w wx:World} {cs:Array Value} {v:Value} {l l2:List Pr} {k k2:Nat} (h:EG w wx cs v l k) (e:l=l2) (hk:l2.length<=k2):EG w wx cs v l2 k2:=by
 subst e;exact⟨h.x,h.o,h.b,hk⟩
theorem rends_text (n f t:LU) (o:Bool) (no:List Val) (hf:f.length<=100) (ht:t.length<=100) (ho:o=true->t=[]) (A:OA) (m c:Nat) (w:World):
  Calls Tryz.prog 88 #[.string ⟨n.toArray⟩,spF 2 0 0 f t o A m c] w (GivesQ w (frmP n ⟨2,0,0,f,t,o,no⟩++toP n ⟨2,0,0,f,t,o,no⟩)):=by
 obtain⟨l1,e1⟩:∃x,Hid (frmP n ⟨2,0,0,f,t,o,no⟩=x):=⟨_,rfl⟩
 obtain⟨l2,e2⟩:∃x,Hid (toP n ⟨2,0,0,f,t,o,no⟩=x):=⟨_,rfl⟩
 rw[e1.o,e2.o]
 have HO:=Jh ho
 obtain⟨z,hz⟩:∃x,Hid ((zeroEnd f).isSome=x):=⟨_,rfl⟩
 clear ho
 have G:Hid (EG w (w.alloc (.cells (sC 2 0 0 f.toArray t.toArray o A m c) 97)) (sC 2 0 0 f.toArray t.toArray o A m c) (.slice none 0 0) [] 0):=⟨Blk.new _ _ _,OwnK.none_ _ _,(gr1 w _).below,Jn⟩
 go_enter Tryz.func88,Tryz.ntmps88
 obtain⟨a0,a1,a2,a3,a4,a5,a6,_⟩:=blk7 G.o.x
 have hlX:=G.o.x.lt
 go_wp2_with fail
 generalize w.alloc (.cells (sC 2 0 0 f.toArray t.toArray o A m c) 97)=w0 at *
 refine (rzero_is f (by omega) z hz.o w0).mono ?_
 rintro e y1 ⟨rfl,hg⟩
 replace G:=Jh (G.o.grown hg)
 clear hg a0 a1 a2 a3 a4 a5 a6 hlX
 obtain⟨a0,a1,a2,a3,a4,a5,a6,_⟩:=blk7 G.o.x
 have hlX:=G.o.x.lt
 go_upto_if 45 with fail
 go_cut [5] from 6 (fun s5 wx=>Hid (EG w wx (sC 2 0 0 f.toArray t.toArray o A m c) s5 l1 1))
 case first=>
  cases hzf:zeroEnd f with
  | some u=>
   obtain rfl:z=true:=by have:=hz.o;rw[hzf] at this;exact this.symm
   have el:Hid (([]:List Pr)++[⟨n,5,2,0,u⟩]=l1):=by show _=_;rw[<-e1.o];unfold frmP;simp only[hzf];rfl
   obtain rfl:=(zeroEnd_iff f u).1 hzf
   have q1:=ext_init u 0
   have q2:(⟨(u++[0]).toArray⟩:ByteArray).size=u.length+1:=by simp[ByteArray.size]
   have hu:u.length<=100:=by simp at hf;omega
   clear hzf hz e1 e2 HO
   have hrx:=rdk_one layP y1 ⟨n,5,2,0,u⟩ 54 (pC n.toArray 5 2 0 u.toArray) rfl
   have hbx:Below y1.heap.size y1 (y1.alloc (.cells (pC n.toArray 5 2 0 u.toArray) 54)):=(gr1 y1 _).below
   have ho:=OwnK.below G.o.o hbx
   have hll:=G.o.l
   have hs:w.heap.size+1<=(y1.alloc (.cells (pC n.toArray 5 2 0 u.toArray) 54)).heap.size:=by have h1:=hbx.size;have h2:=G.o.x.lt;omega
   have hbb:Below (w.heap.size+1) y1 (y1.alloc (.cells (pC n.toArray 5 2 0 u.toArray) 54)):=hbx.mono (by have h2:=G.o.x.lt;omega)
   go_wp2_with (first | (at_builtin;refine wpList_append_k layP (by rfl) (.tmp 46) (.tmp 57) 26 underQ rfl (w.heap.size+1) _ ([]) (by rfl) ho _ [⟨n,5,2,0,u⟩] 1 1 (by rfl) hrx rfl (by rw[maxLen_num];show _+1<=_;omega) (by show (_+1)*56<=_;omega) hs ?_;intro v1 x1 o1 b1 g1 lq1;have hB1:=b1 _ hbb;have G1:Hid (EG w x1 (sC 2 0 0 ((u++[0]).toArray) t.toArray o A m c) v1 ([]++[⟨n,5,2,0,u⟩]) 2):=⟨Blk.below G.o.x hB1 (Nat.lt_succ_self _),o1,G.o.b.trans (hB1.mono (Nat.le_succ _)),by simp only[List.length_append,List.length_cons,List.length_nil] at hll ⊢;omega⟩;clear hrx hs ho hbx hbb hB1 o1 b1 g1 lq1 hll G))
   go_meet
   case rel=>exact G1.o.to el.o (by rw[<-el.o];simp)
  | none=>
   obtain rfl:z=false:=by have:=hz.o;rw[hzf] at this;exact this.symm
   by_cases hf0:f=[]
   ·have el:Hid (([]:List Pr)=l1):=by show _=_;rw[<-e1.o];unfold frmP;simp only[hzf];rw[if_pos hf0]
    subst hf0
    clear hzf hz e1 e2 HO
    go_wp2_with fail
    go_meet
    case rel=>exact G.o.to el.o (by rw[<-el.o];simp)
   ·have el:Hid (([]:List Pr)++[⟨n,6,2,0,f⟩]=l1):=by show _=_;rw[<-e1.o];unfold frmP;simp only[hzf];rw[if_neg hf0];rfl
    have q0:f.isEmpty=false:=by simpa using hf0
    clear hzf hz e1 e2 HO hf0
    have hrx:=rdk_one layP y1 ⟨n,6,2,0,f⟩ 54 (pC n.toArray 6 2 0 f.toArray) rfl
    have hbx:Below y1.heap.size y1 (y1.alloc (.cells (pC n.toArray 6 2 0 f.toArray) 54)):=(gr1 y1 _).below
    have ho:=OwnK.below G.o.o hbx
    have hll:=G.o.l
    have hs:w.heap.size+1<=(y1.alloc (.cells (pC n.toArray 6 2 0 f.toArray) 54)).heap.size:=by have h1:=hbx.size;have h2:=G.o.x.lt;omega
    have hbb:Below (w.heap.size+1) y1 (y1.alloc (.cells (pC n.toArray 6 2 0 f.toArray) 54)):=hbx.mono (by have h2:=G.o.x.lt;omega)
    go_wp2_with (first | (at_builtin;refine wpList_append_k layP (by rfl) (.tmp 67) (.tmp 73) 26 underQ rfl (w.heap.size+1) _ ([]) (by rfl) ho _ [⟨n,6,2,0,f⟩] 1 1 (by rfl) hrx rfl (by rw[maxLen_num];show _+1<=_;omega) (by show (_+1)*56<=_;omega) hs ?_;intro v1 x1 o1 b1 g1 lq1;have hB1:=b1 _ hbb;have G1:Hid (EG w x1 (sC 2 0 0 f.toArray t.toArray o A m c) v1 ([]++[⟨n,6,2,0,f⟩]) 2):=⟨Blk.below G.o.x hB1 (Nat.lt_succ_self _),o1,G.o.b.trans (hB1.mono (Nat.le_succ _)),by simp only[List.length_append,List.length_cons,List.length_nil] at hll ⊢;omega⟩;clear hrx hs ho hbx hbb hB1 o1 b1 g1 lq1 hll G))
    go_meet
    case rel=>exact G1.o.to el.o (by rw[<-el.o];simp)
 case rest=>
  clear G e1 hz a0 a1 a2 a3 a4 a5 a6 hlX
  have G:=hcut
  clear hcut
  generalize wc=w3 at *
  obtain⟨a0,a1,a2,a3,a4,a5,a6,_⟩:=blk7 G.o.x
  have hlX:=G.o.x.lt
  cases o with
  | true=>
   have el:Hid ([]=l2):=by show _=_;rw[<-e2.o];unfold toP;rw[if_pos rfl]
   clear e2 HO
   go_wp2_with fail
   go_ret
   exact⟨_,rfl,(show OwnK layP _ _ _ _ from by rw[<-el.o,List.append_nil];exact G.o.o.less (Nat.le_succ w.heap.size)),G.o.b⟩
  | false=>
   obtain⟨z2,hz2⟩:∃x,Hid ((zeroEnd t).isSome=x):=⟨_,rfl⟩
   go_wp2_with fail
   refine (rzero_is t (by omega) z2 hz2.o w3).mono ?_
   rintro e y1 ⟨rfl,hg⟩
   replace G:=Jh (G.o.grown hg)
   clear hg a0 a1 a2 a3 a4 a5 a6 hlX
   obtain⟨a0,a1,a2,a3,a4,a5,a6,_⟩:=blk7 G.o.x
   have hlX:=G.o.x.lt
   cases hzt:zeroEnd t with
   | some u=>
    obtain rfl:z2=true:=by have:=hz2.o;rw[hzt] at this;exact this.symm
    have el:Hid ([⟨n,4,2,0,u⟩]=l2):=by show _=_;rw[<-e2.o];unfold toP;simp only[hzt];rfl
    obtain rfl:=(zeroEnd_iff t u).1 hzt
    have q1:=ext_init u 0
    have q2:(⟨(u++[0]).toArray⟩:ByteArray).size=u.length+1:=by simp[ByteArray.size]
    have hu:u.length<=100:=by simp at ht;omega
    clear hzt hz2 e2 HO
    have hrx:=rdk_one layP y1 ⟨n,4,2,0,u⟩ 54 (pC n.toArray 4 2 0 u.toArray) rfl
    have hbx:Below y1.heap.size y1 (y1.alloc (.cells (pC n.toArray 4 2 0 u.toArray) 54)):=(gr1 y1 _).below
    have ho:=OwnK.below G.o.o hbx
    have hll:=G.o.l
    have hs:w.heap.size+1<=(y1.alloc (.cells (pC n.toArray 4 2 0 u.toArray) 54)).heap.size:=by have h1:=hbx.size;have h2:=G.o.x.lt;omega
    have hbb:Below (w.heap.size+1) y1 (y1.alloc (.cells (pC n.toArray 4 2 0 u.toArray) 54)):=hbx.mono (by have h2:=G.o.x.lt;omega)
    go_wp2_with (first | (at_builtin;refine wpList_append_k layP (by rfl) (.tmp 88) (.tmp 99) 26 underQ rfl (w.heap.size+1) _ (l1) (by rfl) ho _ [⟨n,4,2,0,u⟩] 1 1 (by rfl) hrx rfl (by rw[maxLen_num];show _+1<=_;omega) (by show (_+1)*56<=_;omega) hs ?_;intro v1 x1 o1 b1 g1 lq1;have hB1:=b1 _ hbb;have G1:Hid (EG w x1 (sC 2 0 0 f.toArray ((u++[0]).toArray) false A m c) v1 (l1++[⟨n,4,2,0,u⟩]) 2):=⟨Blk.below G.o.x hB1 (Nat.lt_succ_self _),o1,G.o.b.trans (hB1.mono (Nat.le_succ _)),by simp only[List.length_append,List.length_cons,List.length_nil] at hll ⊢;omega⟩;clear hrx hs ho hbx hbb hB1 o1 b1 g1 lq1 hll G))
    go_ret
    exact⟨_,rfl,(show OwnK layP _ _ _ _ from by rw[<-el.o];exact G1.o.o.less (Nat.le_succ w.heap.size)),G1.o.b⟩
   | none=>
    obtain rfl:z2=false:=by have:=hz2.o;rw[hzt] at this;exact this.symm
    have el:Hid ([⟨n,3,2,0,t⟩]=l2):=by show _=_;rw[<-e2.o];unfold toP;simp only[hzt];rfl
    clear hzt hz2 e2 HO
    have hrx:=rdk_one layP y1 ⟨n,3,2,0,t⟩ 54 (pC n.toArray 3 2 0 t.toArray) rfl
    have hbx:Below y1.heap.size y1 (y1.alloc (.cells (pC n.toArray 3 2 0 t.toArray) 54)):=(gr1 y1 _).below
    have ho:=OwnK.below G.o.o hbx
    have hll:=G.o.l
    have hs:w.heap.size+1<=(y1.alloc (.cells (pC n.toArray 3 2 0 t.toArray) 54)).heap.size:=by have h1:=hbx.size;have h2:=G.o.x.lt;omega
    have hbb:Below (w.heap.size+1) y1 (y1.alloc (.cells (pC n.toArray 3 2 0 t.toArray) 54)):=hbx.mono (by have h2:=G.o.x.lt;omega)
    go_wp2_with (first | (at_builtin;refine wpList_append_k layP (by rfl) (.tmp 109) (.tmp 115) 26 underQ rfl (w.heap.size+1) _ (l1) (by rfl) ho _ [⟨n,3,2,0,t⟩] 1 1 (by rfl) hrx rfl (by rw[maxLen_num];show _+1<=_;omega) (by show (_+1)*56<=_;omega) hs ?_;intro v1 x1 o1 b1 g1 lq1;have hB1:=b1 _ hbb;have G1:Hid (EG w x1 (sC 2 0 0 f.toArray t.toArray false A m c) v1 (l1++[⟨n,3,2,0,t⟩]) 2):=⟨Blk.below G.o.x hB1 (Nat.lt_succ_self _),o1,G.o.b.trans (hB1.mono (Nat.le_succ _)),by simp only[List.length_append,List.length_cons,List.length_nil] at hll ⊢;omega⟩;clear hrx hs ho hbx hbb hB1 o1 b1 g1 lq1 hll G))
    go_ret
    exact⟨_,rfl,(show OwnK layP _ _ _ _ from by rw[<-el.o];exact G1.o.o.less (Nat.le_succ w.heap.size)),G1.o.b⟩
end
end Go.Proofs.YtnfigjggjmncdaaGreat
