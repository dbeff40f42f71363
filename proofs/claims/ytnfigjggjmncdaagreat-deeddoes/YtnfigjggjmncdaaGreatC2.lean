/- Contracts. -/
import Derived.Test.YtnfigjggjmncdaaGreatC1
set_option maxRecDepth 100000
set_option maxHeartbeats 4000000
namespace Go.Proofs.YtnfigjggjmncdaaGreat
section
open Go.RowKit Go.Sort Spans Op
theorem own_litK {α:Type} (L:Lay α) (w:World) (base:Nat) (hb:base<=w.heap.size) (a:α) {cs:Array Value} (h:cs=(L.enc a).toArray):OwnK L (w.alloc (.cells cs L.T)) base (.slice (some ⟨w.heap.size,0,none⟩) 1 1) [a]:=by
 subst h
 refine ⟨flatL_length [a],.inr ⟨w.heap.size,1,_,rfl,hb,heap_alloc_new _ _,Jn,by rw[maxLen_num];omega,?_,?_⟩⟩
 ·simp[L.len]
 ·simp
  exact List.take_of_length_le (by rw[L.len];exact Jn)
theorem ext_last (u:LU) (x:UInt8):(⟨(u++[x]).toArray⟩:ByteArray).extract u.length (u.length+1)=⟨#[x]⟩:=by
 apply ByteArray.ext
 simp[ByteArray.data_extract]
theorem ext_init (u:LU) (x:UInt8):(⟨(u++[x]).toArray⟩:ByteArray).extract 0 u.length=⟨u.toArray⟩:=by
 apply ByteArray.ext
 simp[ByteArray.data_extract]
theorem suffix_last (u:LU) (x:UInt8) (hu:u.length<=1000) (w:World) (b:Bool) (hb:decide (x=0)=b):Calls Tryz.prog 215 #[.string ⟨(u++[x]).toArray⟩,.string ⟨#[0]⟩] w fun e w'=>e=.returned (.bool b)/\w'=w:=by
 have h1:=ext_last u x
 have h2:(⟨(u++[x]).toArray⟩:ByteArray).size=u.length+1:=by simp[ByteArray.size]
 go_enter Tryz.func215,Tryz.ntmps215
 go_wp2_with fail
 all_goals (go_ret;refine ⟨ret_b ?_,rfl⟩)
 all_goals (rw[<-hb];by_cases hx0:x=0<;>simp_all)
theorem suffix_nil (w:World):Calls Tryz.prog 215 #[.string ⟨#[]⟩,.string ⟨#[0]⟩] w fun e w'=>e=.returned (.bool false)/\w'=w:=by
 go_enter Tryz.func215,Tryz.ntmps215
 go_wp2_with fail
 go_ret
 exact⟨rfl,rfl⟩
def cutZ (s:LU):LU:=(zeroEnd s).getD s
theorem cut1_at (s:LU) (hs:s.length<=1000) (w:World):Calls Tryz.prog 213 #[.string ⟨s.toArray⟩,.string ⟨#[0]⟩] w fun e w'=>e=.returned (.tuple #[.string ⟨(cutZ s).toArray⟩,.bool (zeroEnd s).isSome])/\w'=w:=by
 rcases List.eq_nil_or_concat s with rfl|⟨u,x,rfl⟩
 ·go_enter Tryz.func213,Tryz.ntmps213
  go_wp2_with fail
  refine (suffix_nil w).mono ?_
  rintro e w' ⟨rfl,rfl⟩
  go_wp2_with fail
  go_ret2
  exact⟨rfl,rfl⟩
 ·have hu:u.length<=1000:=by simp at hs;omega
  rw[List.concat_eq_append]
  clear hs
  by_cases hx:x=0
  ·subst hx
   have HZ:Hid (zeroEnd (u++[0])=some u):=(zeroEnd_iff _ _).2 rfl
   have h1:=ext_init u 0
   have h2:(⟨(u++[0]).toArray⟩:ByteArray).size=u.length+1:=by simp[ByteArray.size]
   go_enter Tryz.func213,Tryz.ntmps213
   go_wp2_with fail
   refine (suffix_last u 0 hu w true rfl).mono ?_
   rintro e w' ⟨rfl,rfl⟩
   go_wp2_with fail
   go_ret2
   refine ⟨?_,rfl⟩
   rw[show cutZ (u++[0])=u by unfold cutZ;rw[HZ.o];rfl,HZ.o]
   rfl
  ·have HZ:Hid (zeroEnd (u++[x])=none):=by
    show zeroEnd (u++[x])=none
    cases hz:zeroEnd (u++[x]) with
    | none=>rfl
    | some v=>
     have:=(zeroEnd_iff _ _).1 hz
     have:=List.append_inj_right' this rfl
     simp at this
     exact absurd this hx
   go_enter Tryz.func213,Tryz.ntmps213
   go_wp2_with fail
   refine (suffix_last u x hu w false (decide_eq_false hx)).mono ?_
   rintro e w' ⟨rfl,rfl⟩
   go_wp2_with fail
   go_ret2
   refine ⟨?_,rfl⟩
   rw[show cutZ (u++[x])=u++[x] by unfold cutZ;rw[HZ.o];rfl,HZ.o]
   rfl
theorem cut_at (s:LU) (hs:s.length<=1000) (w:World):Calls Tryz.prog 205 #[.string ⟨s.toArray⟩,.string ⟨#[0]⟩] w fun e w'=>e=.returned (.tuple #[.string ⟨(cutZ s).toArray⟩,.bool (zeroEnd s).isSome])/\w'=w:=by
 go_enter Tryz.func205,Tryz.ntmps205
 go_wp2_with fail
 refine (cut1_at s hs w).mono ?_
 rintro e w' ⟨rfl,rfl⟩
 go_wp2_with fail
 go_ret2
 exact⟨rfl,rfl⟩
def teP (n e:LU) (plain cut:Int):Pr:=⟨n,if (zeroEnd e).isSome then cut else plain,2,0,cutZ e⟩
theorem cut_is (s:LU) (hs:s.length<=1000) (z:Bool) (hz:(zeroEnd s).isSome=z) (c:LU) (hc:cutZ s=c) (w:World):Calls Tryz.prog 205 #[.string ⟨s.toArray⟩,.string ⟨#[0]⟩] w fun e w'=>e=.returned (.tuple #[.string ⟨c.toArray⟩,.bool z])/\w'=w:=by
 subst hz;subst hc;exact cut_at s hs w
theorem textEnd_is (n e:LU) (plain cut:Int) (he:e.length<=1000) (z:Bool) (hz:(zeroEnd e).isSome=z) (c:LU) (hc:cutZ e=c) (hp:z=false->e=c) (w:World):Calls Tryz.prog 182 #[.string ⟨n.toArray⟩,.string ⟨e.toArray⟩,.int .i64 plain,.int .i64 cut] w fun r w'=>r=.returned (.agg (pC n.toArray (if z then cut else plain) 2 0 c.toArray))/\Below w.heap.size w w':=by
 have HZ:=Jh hz
 have HC:=Jh hc
 have hY:=Blk.new w 54 (pC #[] 0 0 0 #[])
 have hg:=gr1 w (.cells (pC #[] 0 0 0 #[]) 54)
 clear hz hc
 cases z with
 | false=>
  have hp:=hp rfl
  subst hp
  go_enter Tryz.func182,Tryz.ntmps182
  go_wp2_with fail
  generalize w.alloc (.cells (pC #[] 0 0 0 #[]) 54)=w0 at *
  refine (cut_is e he false HZ.o e HC.o w0).mono ?_
  rintro r w' ⟨rfl,rfl⟩
  obtain⟨y0,y1,y2,y3,y4,q0,q1,q2,q3,q4⟩:=blk5 hY
  have hl:=hY.lt
  go_wp2_with fail
  refine bodyPost_ret (v:=.agg (pC n.toArray plain 2 0 e.toArray)) (by simp[results,Tryz.results182,go_sem,y0,y1,y2,y3,y4]) rfl ?_
  exact⟨rfl,below_set (below_set (below_set (below_set (below_set hg.below (Jn)) (Jn)) (Jn)) (Jn)) (Jn)⟩
 | true=>
  clear hp
  go_enter Tryz.func182,Tryz.ntmps182
  go_wp2_with fail
  generalize w.alloc (.cells (pC #[] 0 0 0 #[]) 54)=w0 at *
  refine (cut_is e he true HZ.o c HC.o w0).mono ?_
  rintro r w' ⟨rfl,rfl⟩
  obtain⟨y0,y1,y2,y3,y4,q0,q1,q2,q3,q4⟩:=blk5 hY
  have hl:=hY.lt
  go_wp2_with fail
  refine bodyPost_ret (v:=.agg (pC n.toArray cut 2 0 c.toArray)) (by simp[results,Tryz.results182,go_sem,y0,y1,y2,y3,y4]) rfl ?_
  exact⟨rfl,below_set (below_set (below_set (below_set (below_set hg.below (Jn)) (Jn)) (Jn)) (Jn)) (Jn)⟩
theorem textEnd_at (n e:LU) (plain cut:Int) (he:e.length<=1000) (q:Pr) (hq:teP n e plain cut=q) (w:World):Calls Tryz.prog 182 #[.string ⟨n.toArray⟩,.string ⟨e.toArray⟩,.int .i64 plain,.int .i64 cut] w fun r w'=>r=.returned (.agg (pC q.n.toArray q.o q.k q.i q.t.toArray))/\Below w.heap.size w w':=by
 subst hq
 refine textEnd_is n e plain cut he _ rfl _ rfl (fun h=>?_) w
 unfold cutZ
 cases hz:zeroEnd e with
 | none=>rfl
 | some u=>rw[hz] at h;simp at h
def GivesQ (w:World) (l:List Pr) (e:Ending) (w':World):Prop:=∃v,e=.returned v/\OwnQ w' w.heap.size v l/\Below w.heap.size w w'
theorem textEnds_at (n f t:LU) (o:Bool) (A:OA) (m c:Nat) (hf:f.length<=1000) (ht:t.length<=1000) (w:World) (l1 l2:List Pr) (hl1:(if f=[] then [] else [teP n f 6 5])=l1) (hl2:(if o then [] else [teP n t 3 4])=l2):
  Calls Tryz.prog 148 #[.string ⟨n.toArray⟩,.agg (sC 2 0 0 f.toArray t.toArray o A m c)] w (GivesQ w (l1++l2)):=by
 obtain⟨q1,hq1⟩:∃q,teP n f 6 5=q:=⟨_,rfl⟩
 obtain⟨q2,hq2⟩:∃q,teP n t 3 4=q:=⟨_,rfl⟩
 rw[hq1] at hl1
 rw[hq2] at hl2
 have HQ1:=Jh hq1
 have HQ2:=Jh hq2
 have hX:=(Blk.new w 97 (sC 2 0 0 f.toArray t.toArray o A m c)).alloc (.cells #[] 54)
 have ho0:OwnQ ((w.alloc (.cells (sC 2 0 0 f.toArray t.toArray o A m c) 97)).alloc (.cells #[] 54)) (w.heap.size+1) (.slice (some ⟨w.heap.size+1,0,none⟩) 0 0) []:=by
  have h:=OwnK.empty (L:=layP) (w.alloc (.cells (sC 2 0 0 f.toArray t.toArray o A m c) 97)) (w.heap.size+1) (by simp)
  rw[show (w.alloc (.cells (sC 2 0 0 f.toArray t.toArray o A m c) 97)).heap.size=w.heap.size+1 by simp] at h
  exact h
 have hW0:Below w.heap.size w ((w.alloc (.cells (sC 2 0 0 f.toArray t.toArray o A m c) 97)).alloc (.cells #[] 54)):=(gr2 w _ _).below
 have hs0:((w.alloc (.cells (sC 2 0 0 f.toArray t.toArray o A m c) 97)).alloc (.cells #[] 54)).heap.size=w.heap.size+2:=by simp
 obtain⟨qn,qo,qk,qi,qt⟩:=q1
 obtain⟨un,uo,uk,ui,ut⟩:=q2
 clear hq1 hq2
 by_cases hfe:f=[]
 ·cases o with
  | true=>
   subst hfe
   rw[if_pos rfl] at hl1
   rw[if_pos rfl] at hl2
   subst hl1
   subst hl2
   go_enter Tryz.func148,Tryz.ntmps148
   go_wp2_with fail
   skip
   go_ret
   exact⟨_,rfl,ho0.less (by omega),hW0⟩
  | false=>
   subst hfe
   rw[if_pos rfl] at hl1
   rw[if_neg (by simp)] at hl2
   subst hl1
   subst hl2
   go_enter Tryz.func148,Tryz.ntmps148
   go_wp2_with fail
   generalize ((w.alloc (.cells (sC 2 0 0 #[] t.toArray false A m c) 97)).alloc (.cells #[] 54))=w0 at *
   refine (textEnd_at n t 3 4 ht ⟨un,uo,uk,ui,ut⟩ HQ2.o w0).mono ?_
   rintro r w2a ⟨rfl,hb2⟩
   have hB2:Below (w.heap.size+1) w0 w2a:=Below.trans (Below.refl _ _) (hb2.mono (by omega))
   have hX2:=Blk.below hX hB2 (by omega)
   have ho2:=OwnK.below ho0 hb2
   have hs2:w.heap.size+2<=w2a.heap.size:=by have:=hB2.size;omega
   obtain⟨a0,a1,a2,a3,a4,a5,a6,_⟩:=blk7 hX2
   have hl2:=hX2.lt
   go_wp2_with (at_builtin;refine wpList_append_k layP (by rfl) (.tmp 20) (.tmp 25) 26 underQ rfl (w.heap.size+1) (.slice (some ⟨w.heap.size+1,0,none⟩) 0 0) [] (by rfl) (OwnK.below ho2 ((Below.refl _ _).alloc (Jn) _)) _ [⟨un,uo,uk,ui,ut⟩] 1 1 (by rfl) (rdk_one layP w2a ⟨un,uo,uk,ui,ut⟩ 54 _ rfl) rfl (by rw[maxLen_num];simp;try omega) (by show _*56<=_;simp;try omega) (by simp;omega) ?_;intro v2 w2 oo2 bb2 _ _;have hBB2:=bb2 w0 (Below.alloc hB2 (by omega) _);clear bb2 a0 a1 a2 a3 a4 a5 a6;have hX2b:=Blk.below hX hBB2 (by omega);obtain⟨a0,a1,a2,a3,a4,a5,a6,_⟩:=blk7 hX2b;have hl2b:=hX2b.lt)
   go_ret
   exact⟨_,rfl,by have h:=oo2.less (show w.heap.size<=w.heap.size+1 by omega);simpa using h,hW0.trans (hBB2.mono (by omega))⟩
 ·cases o with
  | true=>
   have vf:(f == [])=false:=beq_eq_false_iff_ne.2 hfe
   rw[if_neg hfe] at hl1
   rw[if_pos rfl] at hl2
   subst hl1
   subst hl2
   go_enter Tryz.func148,Tryz.ntmps148
   go_wp2_with fail
   generalize ((w.alloc (.cells (sC 2 0 0 f.toArray t.toArray true A m c) 97)).alloc (.cells #[] 54))=w0 at *
   refine (textEnd_at n f 6 5 hf ⟨qn,qo,qk,qi,qt⟩ HQ1.o w0).mono ?_
   rintro r w1a ⟨rfl,hb1⟩
   have hB1:Below (w.heap.size+1) w0 w1a:=Below.trans (Below.refl _ _) (hb1.mono (by omega))
   have hX1:=Blk.below hX hB1 (by omega)
   have ho1:=OwnK.below ho0 hb1
   have hs1:w.heap.size+2<=w1a.heap.size:=by have:=hB1.size;omega
   obtain⟨a0,a1,a2,a3,a4,a5,a6,_⟩:=blk7 hX1
   have hl1:=hX1.lt
   go_wp2_with (at_builtin;refine wpList_append_k layP (by rfl) (.tmp 10) (.tmp 15) 26 underQ rfl (w.heap.size+1) (.slice (some ⟨w.heap.size+1,0,none⟩) 0 0) [] (by rfl) (OwnK.below ho1 ((Below.refl _ _).alloc (Jn) _)) _ [⟨qn,qo,qk,qi,qt⟩] 1 1 (by rfl) (rdk_one layP w1a ⟨qn,qo,qk,qi,qt⟩ 54 _ rfl) rfl (by rw[maxLen_num];simp;try omega) (by show _*56<=_;simp;try omega) (by simp;omega) ?_;intro v1 w1 oo1 bb1 _ _;have hBB1:=bb1 w0 (Below.alloc hB1 (by omega) _);clear bb1 a0 a1 a2 a3 a4 a5 a6;have hX1b:=Blk.below hX hBB1 (by omega);obtain⟨a0,a1,a2,a3,a4,a5,a6,_⟩:=blk7 hX1b;have hl1b:=hX1b.lt)
   go_ret
   exact⟨_,rfl,by have h:=oo1.less (show w.heap.size<=w.heap.size+1 by omega);simpa using h,hW0.trans (hBB1.mono (by omega))⟩
  | false=>
   have vf:(f == [])=false:=beq_eq_false_iff_ne.2 hfe
   rw[if_neg hfe] at hl1
   rw[if_neg (by simp)] at hl2
   subst hl1
   subst hl2
   go_enter Tryz.func148,Tryz.ntmps148
   go_wp2_with fail
   generalize ((w.alloc (.cells (sC 2 0 0 f.toArray t.toArray false A m c) 97)).alloc (.cells #[] 54))=w0 at *
   refine (textEnd_at n f 6 5 hf ⟨qn,qo,qk,qi,qt⟩ HQ1.o w0).mono ?_
   rintro r w1a ⟨rfl,hb1⟩
   have hB1:Below (w.heap.size+1) w0 w1a:=Below.trans (Below.refl _ _) (hb1.mono (by omega))
   have hX1:=Blk.below hX hB1 (by omega)
   have ho1:=OwnK.below ho0 hb1
   have hs1:w.heap.size+2<=w1a.heap.size:=by have:=hB1.size;omega
   obtain⟨a0,a1,a2,a3,a4,a5,a6,_⟩:=blk7 hX1
   have hl1:=hX1.lt
   go_wp2_with (at_builtin;refine wpList_append_k layP (by rfl) (.tmp 10) (.tmp 15) 26 underQ rfl (w.heap.size+1) (.slice (some ⟨w.heap.size+1,0,none⟩) 0 0) [] (by rfl) (OwnK.below ho1 ((Below.refl _ _).alloc (Jn) _)) _ [⟨qn,qo,qk,qi,qt⟩] 1 1 (by rfl) (rdk_one layP w1a ⟨qn,qo,qk,qi,qt⟩ 54 _ rfl) rfl (by rw[maxLen_num];simp;try omega) (by show _*56<=_;simp;try omega) (by simp;omega) ?_;intro v1 w1 oo1 bb1 _ _;have hBB1:=bb1 w0 (Below.alloc hB1 (by omega) _);clear bb1 a0 a1 a2 a3 a4 a5 a6;have hX1b:=Blk.below hX hBB1 (by omega);obtain⟨a0,a1,a2,a3,a4,a5,a6,_⟩:=blk7 hX1b;have hl1b:=hX1b.lt)
   clear a0 a1 a2 a3 a4 a5 a6
   refine (textEnd_at n t 3 4 ht ⟨un,uo,uk,ui,ut⟩ HQ2.o w1).mono ?_
   rintro r w2a ⟨rfl,hb2⟩
   have hB2:Below (w.heap.size+1) w0 w2a:=Below.trans hBB1 (hb2.mono (by have:=hBB1.size;omega))
   have hX2:=Blk.below hX hB2 (by omega)
   have ho2:=OwnK.below oo1 hb2
   have hs2:w.heap.size+2<=w2a.heap.size:=by have:=hB2.size;omega
   obtain⟨a0,a1,a2,a3,a4,a5,a6,_⟩:=blk7 hX2
   have hl2:=hX2.lt
   go_wp2_with (at_builtin;refine wpList_append_k layP (by rfl) (.tmp 20) (.tmp 25) 26 underQ rfl (w.heap.size+1) v1 ([]++[⟨qn,qo,qk,qi,qt⟩]) (by rfl) (OwnK.below ho2 ((Below.refl _ _).alloc (Jn) _)) _ [⟨un,uo,uk,ui,ut⟩] 1 1 (by rfl) (rdk_one layP w2a ⟨un,uo,uk,ui,ut⟩ 54 _ rfl) rfl (by rw[maxLen_num];simp;try omega) (by show _*56<=_;simp;try omega) (by simp;omega) ?_;intro v2 w2 oo2 bb2 _ _;have hBB2:=bb2 w0 (Below.alloc hB2 (by omega) _);clear bb2 a0 a1 a2 a3 a4 a5 a6;have hX2b:=Blk.below hX hBB2 (by omega);obtain⟨a0,a1,a2,a3,a4,a5,a6,_⟩:=blk7 hX2b;have hl2b:=hX2b.lt)
   go_ret
   exact⟨_,rfl,by have h:=oo2.less (show w.heap.size<=w.heap.size+1 by omega);simpa using h,hW0.trans (hBB2.mono (by omega))⟩
theorem endsT_at (n f t:LU) (o:Bool) (A:OA) (m c:Nat) (hf:f.length<=1000) (ht:t.length<=1000) (w:World) (l1 l2:List Pr) (hl1:(if f=[] then [] else [teP n f 6 5])=l1) (hl2:(if o then [] else [teP n t 3 4])=l2):
  Calls Tryz.prog 117 #[.string ⟨n.toArray⟩,.agg (sC 2 0 0 f.toArray t.toArray o A m c)] w (GivesQ w (l1++l2)):=by
 have HL1:=Jh hl1
 have HL2:=Jh hl2
 clear hl1 hl2
 have hg:=gr1 w (.cells (sC 2 0 0 f.toArray t.toArray o A m c) 97)
 go_enter Tryz.func117,Tryz.ntmps117
 go_wp2_with fail
 generalize w.alloc (.cells (sC 2 0 0 f.toArray t.toArray o A m c) 97)=w0 at *
 refine (textEnds_at n f t o A m c hf ht w0 l1 l2 HL1.o HL2.o).mono ?_
 rintro e w1 ⟨v,rfl,ho,hb⟩
 go_wp2_with fail
 go_ret
 exact⟨v,rfl,ho.less hg.below.size,below_next hg.below (Jn) hb⟩
theorem endsN_at (n:LU) (K lo hi:Int) (hk:K=1∨K=3) (A:OA) (m c:Nat) (w:World) (l1 l2:List Pr) (hl1:(if lowest K<lo then [(⟨n,6,K,lo,[]⟩:Pr)] else [])=l1) (hl2:(if hi<highest K then [(⟨n,4,K,hi,[]⟩:Pr)] else [])=l2):
  Calls Tryz.prog 117 #[.string ⟨n.toArray⟩,.agg (sC K lo hi #[] #[] false A m c)] w (GivesQ w (l1++l2)):=by
 have HK:=Jh hk
 have vk:(K == 2)=false:=beq_eq_false_iff_ne.2 (by omega)
 clear hk
 have hX:=(Blk.new w 97 (sC K lo hi #[] #[] false A m c)).alloc (.cells #[] 54)
 have ho0:OwnQ ((w.alloc (.cells (sC K lo hi #[] #[] false A m c) 97)).alloc (.cells #[] 54)) (w.heap.size+1) (.slice (some ⟨w.heap.size+1,0,none⟩) 0 0) []:=by
  have h:=OwnK.empty (L:=layP) (w.alloc (.cells (sC K lo hi #[] #[] false A m c) 97)) (w.heap.size+1) (by simp)
  rw[show (w.alloc (.cells (sC K lo hi #[] #[] false A m c) 97)).heap.size=w.heap.size+1 by simp] at h
  exact h
 have hW0:Below w.heap.size w ((w.alloc (.cells (sC K lo hi #[] #[] false A m c) 97)).alloc (.cells #[] 54)):=(gr2 w _ _).below
 have hs0:((w.alloc (.cells (sC K lo hi #[] #[] false A m c) 97)).alloc (.cells #[] 54)).heap.size=w.heap.size+2:=by simp
 by_cases ha:lowest K<lo
 ·by_cases hb:hi<highest K
  ·skip
   rw[if_pos ha] at hl1
   rw[if_pos hb] at hl2
   subst hl1
   subst hl2
   go_enter Tryz.func117,Tryz.ntmps117
   go_wp2_with fail
   generalize ((w.alloc (.cells (sC K lo hi #[] #[] false A m c) 97)).alloc (.cells #[] 54))=w0 at *
   refine (wholeN_at K w0 HK.o).mono ?_
   rintro e wa ⟨rfl,hga⟩
   have hBa:Below (w.heap.size+1) w0 wa:=hga.below.mono (by omega)
   have hsa:w.heap.size+2<=wa.heap.size:=by have:=hBa.size;omega
   have hoa:=OwnK.below ho0 hga.below
   have hbb:Below wa.heap.size wa (wa.alloc (.cells (sC K (lowest K) (highest K) #[] #[] false none 0 0) 97)):=(Below.refl _ _).alloc (Jn) _
   have hVb:Blk (wa.alloc (.cells (sC K (lowest K) (highest K) #[] #[] false none 0 0) 97)) wa.heap.size 97 (sC K (lowest K) (highest K) #[] #[] false none 0 0):=Blk.new _ _ _
   have hBb:Below (w.heap.size+1) w0 (wa.alloc (.cells (sC K (lowest K) (highest K) #[] #[] false none 0 0) 97)):=hBa.trans (hbb.mono (by omega))
   have hXb:=Blk.below hX hBb (by omega)
   have hob:=OwnK.below hoa hbb
   have hsb:w.heap.size+2<=(wa.alloc (.cells (sC K (lowest K) (highest K) #[] #[] false none 0 0) 97)).heap.size:=by simp;omega
   have hlV:wa.heap.size<(wa.alloc (.cells (sC K (lowest K) (highest K) #[] #[] false none 0 0) 97)).heap.size:=by simp
   have hXa:=Blk.below hX hBa (by omega)
   obtain⟨a0,a1,a2,a3,a4,a5,a6,_⟩:=blk7 hXa
   have hla:=hXa.lt
   have hne:¬wa.heap.size=w.heap.size:=by omega
   go_wp2_with (first | (at_builtin;refine wpList_append_k layP (by rfl) (.tmp 37) (.tmp 45) 26 underQ rfl (w.heap.size+1) v1 [⟨n,6,K,lo,[]⟩] (by rfl) (OwnK.below oo1 ((Below.refl _ _).alloc (Jn) _)) _ [⟨n,4,K,hi,[]⟩] 1 1 (by rfl) (rdk_one layP w1 ⟨n,4,K,hi,[]⟩ 54 _ rfl) rfl (by rw[maxLen_num];simp) (by show _*56<=_;simp) (by simp;omega) ?_;intro v2 w2 oo2 bb2 _ _;have hBB2:=bb2 w0 (Below.alloc hBB1 (by omega) _);clear bb2) | (at_builtin;refine wpList_append_k layP (by rfl) (.tmp 22) (.tmp 30) 26 underQ rfl (w.heap.size+1) (.slice (some ⟨w.heap.size+1,0,none⟩) 0 0) [] (by rfl) (OwnK.below hob ((Below.refl _ _).alloc (Jn) _)) _ [⟨n,6,K,lo,[]⟩] 1 1 (by rfl) (by have h:=rdk_one layP (wa.alloc (.cells (sC K (lowest K) (highest K) #[] #[] false none 0 0) 97)) ⟨n,6,K,lo,[]⟩ 54 _ rfl;rw[show (wa.alloc (.cells (sC K (lowest K) (highest K) #[] #[] false none 0 0) 97)).heap.size=wa.heap.size+1 by simp] at h;exact h) rfl (by rw[maxLen_num];simp) (by show _*56<=_;simp) (by simp;omega) ?_;intro v1 w1 oo1 bb1 gg1 _;have hBB1:=bb1 w0 (Below.alloc hBb (by omega) _);have hX1:=Blk.below hX hBB1 (by omega);have hV1:Blk w1 wa.heap.size 97 (sC K (lowest K) (highest K) #[] #[] false none 0 0):=(World.grownBy.block gg1 wa.heap.size (by simp;try omega) (by simp[Value.ownBlock];try omega)).trans (Blk.alloc hVb _);clear bb1 gg1 a0 a1 a2 a3 a4 a5 a6;obtain⟨a0,a1,a2,a3,a4,a5,a6,_⟩:=blk7 hX1;obtain⟨z0,z1,z2,z3,z4,z5,z6,_⟩:=blk7 hV1;have hl1:=hX1.lt;have hl2:=hV1.lt))
   go_ret
   exact⟨_,rfl,by have h:=oo2.less (show w.heap.size<=w.heap.size+1 by omega);simpa using h,hW0.trans (hBB2.mono (by omega))⟩
  ·skip
   rw[if_pos ha] at hl1
   rw[if_neg hb] at hl2
   subst hl1
   subst hl2
   go_enter Tryz.func117,Tryz.ntmps117
   go_wp2_with fail
   generalize ((w.alloc (.cells (sC K lo hi #[] #[] false A m c) 97)).alloc (.cells #[] 54))=w0 at *
   refine (wholeN_at K w0 HK.o).mono ?_
   rintro e wa ⟨rfl,hga⟩
   have hBa:Below (w.heap.size+1) w0 wa:=hga.below.mono (by omega)
   have hsa:w.heap.size+2<=wa.heap.size:=by have:=hBa.size;omega
   have hoa:=OwnK.below ho0 hga.below
   have hbb:Below wa.heap.size wa (wa.alloc (.cells (sC K (lowest K) (highest K) #[] #[] false none 0 0) 97)):=(Below.refl _ _).alloc (Jn) _
   have hVb:Blk (wa.alloc (.cells (sC K (lowest K) (highest K) #[] #[] false none 0 0) 97)) wa.heap.size 97 (sC K (lowest K) (highest K) #[] #[] false none 0 0):=Blk.new _ _ _
   have hBb:Below (w.heap.size+1) w0 (wa.alloc (.cells (sC K (lowest K) (highest K) #[] #[] false none 0 0) 97)):=hBa.trans (hbb.mono (by omega))
   have hXb:=Blk.below hX hBb (by omega)
   have hob:=OwnK.below hoa hbb
   have hsb:w.heap.size+2<=(wa.alloc (.cells (sC K (lowest K) (highest K) #[] #[] false none 0 0) 97)).heap.size:=by simp;omega
   have hlV:wa.heap.size<(wa.alloc (.cells (sC K (lowest K) (highest K) #[] #[] false none 0 0) 97)).heap.size:=by simp
   have hXa:=Blk.below hX hBa (by omega)
   obtain⟨a0,a1,a2,a3,a4,a5,a6,_⟩:=blk7 hXa
   have hla:=hXa.lt
   have hne:¬wa.heap.size=w.heap.size:=by omega
   have hb':highest K<=hi:=by omega
   go_wp2_with (at_builtin;refine wpList_append_k layP (by rfl) (.tmp 22) (.tmp 30) 26 underQ rfl (w.heap.size+1) (.slice (some ⟨w.heap.size+1,0,none⟩) 0 0) [] (by rfl) (OwnK.below hob ((Below.refl _ _).alloc (Jn) _)) _ [⟨n,6,K,lo,[]⟩] 1 1 (by rfl) (by have h:=rdk_one layP (wa.alloc (.cells (sC K (lowest K) (highest K) #[] #[] false none 0 0) 97)) ⟨n,6,K,lo,[]⟩ 54 _ rfl;rw[show (wa.alloc (.cells (sC K (lowest K) (highest K) #[] #[] false none 0 0) 97)).heap.size=wa.heap.size+1 by simp] at h;exact h) rfl (by rw[maxLen_num];simp) (by show _*56<=_;simp) (by simp;omega) ?_;intro v1 w1 oo1 bb1 gg1 _;have hBB1:=bb1 w0 (Below.alloc hBb (by omega) _);have hX1:=Blk.below hX hBB1 (by omega);have hV1:Blk w1 wa.heap.size 97 (sC K (lowest K) (highest K) #[] #[] false none 0 0):=(World.grownBy.block gg1 wa.heap.size (by simp;try omega) (by simp[Value.ownBlock];try omega)).trans (Blk.alloc hVb _);clear bb1 gg1 a0 a1 a2 a3 a4 a5 a6;obtain⟨a0,a1,a2,a3,a4,a5,a6,_⟩:=blk7 hX1;obtain⟨z0,z1,z2,z3,z4,z5,z6,_⟩:=blk7 hV1;have hl1:=hX1.lt;have hl2:=hV1.lt)
   go_ret
   exact⟨_,rfl,by have h:=oo1.less (show w.heap.size<=w.heap.size+1 by omega);simpa using h,hW0.trans (hBB1.mono (by omega))⟩
 ·by_cases hb:hi<highest K
  ·skip
   rw[if_neg ha] at hl1
   rw[if_pos hb] at hl2
   subst hl1
   subst hl2
   go_enter Tryz.func117,Tryz.ntmps117
   go_wp2_with fail
   generalize ((w.alloc (.cells (sC K lo hi #[] #[] false A m c) 97)).alloc (.cells #[] 54))=w0 at *
   refine (wholeN_at K w0 HK.o).mono ?_
   rintro e wa ⟨rfl,hga⟩
   have hBa:Below (w.heap.size+1) w0 wa:=hga.below.mono (by omega)
   have hsa:w.heap.size+2<=wa.heap.size:=by have:=hBa.size;omega
   have hoa:=OwnK.below ho0 hga.below
   have hbb:Below wa.heap.size wa (wa.alloc (.cells (sC K (lowest K) (highest K) #[] #[] false none 0 0) 97)):=(Below.refl _ _).alloc (Jn) _
   have hVb:Blk (wa.alloc (.cells (sC K (lowest K) (highest K) #[] #[] false none 0 0) 97)) wa.heap.size 97 (sC K (lowest K) (highest K) #[] #[] false none 0 0):=Blk.new _ _ _
   have hBb:Below (w.heap.size+1) w0 (wa.alloc (.cells (sC K (lowest K) (highest K) #[] #[] false none 0 0) 97)):=hBa.trans (hbb.mono (by omega))
   have hXb:=Blk.below hX hBb (by omega)
   have hob:=OwnK.below hoa hbb
   have hsb:w.heap.size+2<=(wa.alloc (.cells (sC K (lowest K) (highest K) #[] #[] false none 0 0) 97)).heap.size:=by simp;omega
   have hlV:wa.heap.size<(wa.alloc (.cells (sC K (lowest K) (highest K) #[] #[] false none 0 0) 97)).heap.size:=by simp
   have hXa:=Blk.below hX hBa (by omega)
   obtain⟨a0,a1,a2,a3,a4,a5,a6,_⟩:=blk7 hXa
   have hla:=hXa.lt
   have hne:¬wa.heap.size=w.heap.size:=by omega
   have ha':lo<=lowest K:=by omega
   go_wp2_with (at_builtin;refine wpList_append_k layP (by rfl) (.tmp 37) (.tmp 45) 26 underQ rfl (w.heap.size+1) (.slice (some ⟨w.heap.size+1,0,none⟩) 0 0) [] (by rfl) (OwnK.below hob ((Below.refl _ _).alloc (Jn) _)) _ [⟨n,4,K,hi,[]⟩] 1 1 (by rfl) (by have h:=rdk_one layP (wa.alloc (.cells (sC K (lowest K) (highest K) #[] #[] false none 0 0) 97)) ⟨n,4,K,hi,[]⟩ 54 _ rfl;rw[show (wa.alloc (.cells (sC K (lowest K) (highest K) #[] #[] false none 0 0) 97)).heap.size=wa.heap.size+1 by simp] at h;exact h) rfl (by rw[maxLen_num];simp) (by show _*56<=_;simp) (by simp;omega) ?_;intro v2 w2 oo2 bb2 _ _;have hBB2:=bb2 w0 (Below.alloc hBb (by omega) _);clear bb2)
   go_ret
   exact⟨_,rfl,by have h:=oo2.less (show w.heap.size<=w.heap.size+1 by omega);simpa using h,hW0.trans (hBB2.mono (by omega))⟩
  ·skip
   rw[if_neg ha] at hl1
   rw[if_neg hb] at hl2
   subst hl1
   subst hl2
   go_enter Tryz.func117,Tryz.ntmps117
   go_wp2_with fail
   generalize ((w.alloc (.cells (sC K lo hi #[] #[] false A m c) 97)).alloc (.cells #[] 54))=w0 at *
   refine (wholeN_at K w0 HK.o).mono ?_
   rintro e wa ⟨rfl,hga⟩
   have hBa:Below (w.heap.size+1) w0 wa:=hga.below.mono (by omega)
   have hsa:w.heap.size+2<=wa.heap.size:=by have:=hBa.size;omega
   have hoa:=OwnK.below ho0 hga.below
   have hbb:Below wa.heap.size wa (wa.alloc (.cells (sC K (lowest K) (highest K) #[] #[] false none 0 0) 97)):=(Below.refl _ _).alloc (Jn) _
   have hVb:Blk (wa.alloc (.cells (sC K (lowest K) (highest K) #[] #[] false none 0 0) 97)) wa.heap.size 97 (sC K (lowest K) (highest K) #[] #[] false none 0 0):=Blk.new _ _ _
   have hBb:Below (w.heap.size+1) w0 (wa.alloc (.cells (sC K (lowest K) (highest K) #[] #[] false none 0 0) 97)):=hBa.trans (hbb.mono (by omega))
   have hXb:=Blk.below hX hBb (by omega)
   have hob:=OwnK.below hoa hbb
   have hsb:w.heap.size+2<=(wa.alloc (.cells (sC K (lowest K) (highest K) #[] #[] false none 0 0) 97)).heap.size:=by simp;omega
   have hlV:wa.heap.size<(wa.alloc (.cells (sC K (lowest K) (highest K) #[] #[] false none 0 0) 97)).heap.size:=by simp
   have hXa:=Blk.below hX hBa (by omega)
   obtain⟨a0,a1,a2,a3,a4,a5,a6,_⟩:=blk7 hXa
   have hla:=hXa.lt
   have hne:¬wa.heap.size=w.heap.size:=by omega
   have ha':lo<=lowest K:=by omega
   have hb':highest K<=hi:=by omega
   go_wp2_with fail
   go_ret
   exact⟨_,rfl,by have h:=hob.less (show w.heap.size<=w.heap.size+1 by omega);simpa using h,hW0.trans (hBb.mono (by omega))⟩
theorem onlyN_at (K lo hi:Int) (hk:K≠2) (A:OA) (m c:Nat) (w:World):Calls Tryz.prog 116 #[.agg (sC K lo hi #[] #[] false A m c)] w fun e w'=>e=.returned (.tuple #[.agg (vC K lo #[]),.bool (lo == hi)])/\Below w.heap.size w w':=by
 have hX:=(Blk.new w 97 (sC K lo hi #[] #[] false A m c)).alloc (.cells (vC 0 0 #[]) 52)
 have hY:=Blk.new (w.alloc (.cells (sC K lo hi #[] #[] false A m c) 97)) 52 (vC 0 0 #[])
 rw[show (w.alloc (.cells (sC K lo hi #[] #[] false A m c) 97)).heap.size=w.heap.size+1 by simp] at hY
 have hW:Below w.heap.size w ((w.alloc (.cells (sC K lo hi #[] #[] false A m c) 97)).alloc (.cells (vC 0 0 #[]) 52)):=(gr2 w _ _).below
 have vk:(K == 2)=false:=beq_eq_false_iff_ne.2 hk
 go_enter Tryz.func116,Tryz.ntmps116
 go_wp2_with fail
 generalize ((w.alloc (.cells (sC K lo hi #[] #[] false A m c) 97)).alloc (.cells (vC 0 0 #[]) 52))=w0 at *
 have hS0:Blk w0.drew w.heap.size 97 (sC K lo hi #[] #[] false A m c):=hX
 refine wp_region_held_drew (S:=fun w'=>Blk w' w.heap.size 97 (sC K lo hi #[] #[] false A m c)) (by kernel_rfl) hS0 (fun _=>?_)
 refine Jz 0 hS0 ?_
 refine Jz 1 hS0 ?_
 refine Jz 2 hS0 ?_
 refine Jz 3 hS0 ?_
 refine Jz 4 hS0 ?_
 refine Jz 5 hS0 ?_
 refine Jz 6 hS0 ?_
 refine Jz 7 hS0 ?_
 refine Jz 8 hS0 ?_
 refine Jz 9 hS0 ?_
 obtain⟨y0,y1,y2,q0,q1,q2⟩:=blk3 hY
 have hl:=hY.lt
 refine Je 10 (fun Ka hKa=>?_)
 go_simp
 have hS1:=Blk.far (Blk.far (Blk.far hS0 (p:=⟨w.heap.size+1,0,none⟩) (by show w.heap.size≠w.heap.size+1;omega) (.int .i64 K)) (p:=⟨w.heap.size+1,1,none⟩) (by show w.heap.size≠w.heap.size+1;omega) (.int .i64 lo)) (p:=⟨w.heap.size+1,2,none⟩) (by show w.heap.size≠w.heap.size+1;omega) (.string ⟨#[]⟩)
 refine hKa.o _ _ hS1 ?_
 refine Jz 11 hS1 ?_
 refine Jd ?_
 go_wp2_with fail
 refine bodyPost_ret (v:=.tuple #[.agg (vC K lo #[]),.bool (lo == hi)]) (by simp[results,Tryz.results116,go_sem,y0,y1,y2]) rfl ?_
 exact⟨rfl,below_set (below_set (below_set hW.drew (by omega)) (by omega)) (by omega)⟩
theorem onlyO_at (f t:LU) (_hf:f.length<=1000) (A:OA) (m c:Nat) (w:World):Calls Tryz.prog 116 #[.agg (sC 2 0 0 f.toArray t.toArray true A m c)] w fun e w'=>e=.returned (.tuple #[.agg (vC 2 0 f.toArray),.bool false])/\Below w.heap.size w w':=by
 have hX:=(Blk.new w 97 (sC 2 0 0 f.toArray t.toArray true A m c)).alloc (.cells (vC 0 0 #[]) 52)
 have hY:=Blk.new (w.alloc (.cells (sC 2 0 0 f.toArray t.toArray true A m c) 97)) 52 (vC 0 0 #[])
 rw[show (w.alloc (.cells (sC 2 0 0 f.toArray t.toArray true A m c) 97)).heap.size=w.heap.size+1 by simp] at hY
 have hW:Below w.heap.size w ((w.alloc (.cells (sC 2 0 0 f.toArray t.toArray true A m c) 97)).alloc (.cells (vC 0 0 #[]) 52)):=(gr2 w _ _).below
 go_enter Tryz.func116,Tryz.ntmps116
 go_wp2_with fail
 generalize ((w.alloc (.cells (sC 2 0 0 f.toArray t.toArray true A m c) 97)).alloc (.cells (vC 0 0 #[]) 52))=w0 at *
 have hS0:Blk w0.drew w.heap.size 97 (sC 2 0 0 f.toArray t.toArray true A m c):=hX
 refine wp_region_held_drew (S:=fun w'=>Blk w' w.heap.size 97 (sC 2 0 0 f.toArray t.toArray true A m c)) (by kernel_rfl) hS0 (fun _=>?_)
 refine Jz 0 hS0 ?_
 refine Jz 1 hS0 ?_
 refine Jz 2 hS0 ?_
 refine Jz 3 hS0 ?_
 refine Jz 4 hS0 ?_
 refine Jz 5 hS0 ?_
 refine Jz 6 hS0 ?_
 refine Jz 7 hS0 ?_
 refine Jz 8 hS0 ?_
 refine Jw 9 hS0 ?_
 refine Jw 10 hS0 ?_
 refine Jw 11 hS0 ?_
 refine Jw 12 hS0 ?_
 refine Jw 13 hS0 ?_
 refine Jw 14 hS0 ?_
 refine Jz 15 hS0 ?_
 obtain⟨y0,y1,y2,q0,q1,q2⟩:=blk3 hY
 have hl:=hY.lt
 refine Je 16 (fun Ka hKa=>?_)
 go_simp
 have hS1:=Blk.far (Blk.far (Blk.far hS0 (p:=⟨w.heap.size+1,0,none⟩) (by show w.heap.size≠w.heap.size+1;omega) (.int .i64 2)) (p:=⟨w.heap.size+1,1,none⟩) (by show w.heap.size≠w.heap.size+1;omega) (.int .i64 0)) (p:=⟨w.heap.size+1,2,none⟩) (by show w.heap.size≠w.heap.size+1;omega) (.string ⟨f.toArray⟩)
 refine hKa.o _ _ hS1 ?_
 refine Jz 17 hS1 ?_
 refine Jd ?_
 go_wp2_with fail
 refine bodyPost_ret (v:=.tuple #[.agg (vC 2 0 f.toArray),.bool false]) (by simp[results,Tryz.results116,go_sem,y0,y1,y2]) rfl ?_
 exact⟨rfl,below_set (below_set (below_set hW.drew (by omega)) (by omega)) (by omega)⟩
theorem onlyT_at (f t:LU) (hf:f.length<=1000) (A:OA) (m c:Nat) (w:World):Calls Tryz.prog 116 #[.agg (sC 2 0 0 f.toArray t.toArray false A m c)] w fun e w'=>e=.returned (.tuple #[.agg (vC 2 0 f.toArray),.bool (t == f++[0])])/\Below w.heap.size w w':=by
 have hX:=(Blk.new w 97 (sC 2 0 0 f.toArray t.toArray false A m c)).alloc (.cells (vC 0 0 #[]) 52)
 have hY:=Blk.new (w.alloc (.cells (sC 2 0 0 f.toArray t.toArray false A m c) 97)) 52 (vC 0 0 #[])
 rw[show (w.alloc (.cells (sC 2 0 0 f.toArray t.toArray false A m c) 97)).heap.size=w.heap.size+1 by simp] at hY
 have hW:Below w.heap.size w ((w.alloc (.cells (sC 2 0 0 f.toArray t.toArray false A m c) 97)).alloc (.cells (vC 0 0 #[]) 52)):=(gr2 w _ _).below
 have hadd:=ba_app0 f
 have wa:¬9223372036854775807<f.length+1:=by omega
 go_enter Tryz.func116,Tryz.ntmps116
 go_wp2_with fail
 generalize ((w.alloc (.cells (sC 2 0 0 f.toArray t.toArray false A m c) 97)).alloc (.cells (vC 0 0 #[]) 52))=w0 at *
 have hS0:Blk w0.drew w.heap.size 97 (sC 2 0 0 f.toArray t.toArray false A m c):=hX
 refine wp_region_held_drew (S:=fun w'=>Blk w' w.heap.size 97 (sC 2 0 0 f.toArray t.toArray false A m c)) (by kernel_rfl) hS0 (fun _=>?_)
 refine Jz 0 hS0 ?_
 refine Jz 1 hS0 ?_
 refine Jz 2 hS0 ?_
 refine Jz 3 hS0 ?_
 refine Jz 4 hS0 ?_
 refine Jz 5 hS0 ?_
 refine Jz 6 hS0 ?_
 refine Jz 7 hS0 ?_
 refine Jz 8 hS0 ?_
 refine Jz 9 hS0 ?_
 refine Jz 10 hS0 ?_
 refine Jz 11 hS0 ?_
 refine Jz 12 hS0 ?_
 refine Jz 13 hS0 ?_
 refine Jz 14 hS0 ?_
 refine Jz 15 hS0 ?_
 obtain⟨y0,y1,y2,q0,q1,q2⟩:=blk3 hY
 have hl:=hY.lt
 refine Je 16 (fun Ka hKa=>?_)
 go_simp
 have hS1:=Blk.far (Blk.far (Blk.far hS0 (p:=⟨w.heap.size+1,0,none⟩) (by show w.heap.size≠w.heap.size+1;omega) (.int .i64 2)) (p:=⟨w.heap.size+1,1,none⟩) (by show w.heap.size≠w.heap.size+1;omega) (.int .i64 0)) (p:=⟨w.heap.size+1,2,none⟩) (by show w.heap.size≠w.heap.size+1;omega) (.string ⟨f.toArray⟩)
 refine hKa.o _ _ hS1 ?_
 refine Jz 17 hS1 ?_
 refine Jd ?_
 go_wp2_with fail
 refine bodyPost_ret (v:=.tuple #[.agg (vC 2 0 f.toArray),.bool (t == f++[0])]) (by simp[results,Tryz.results116,go_sem,y0,y1,y2]) rfl ?_
 exact⟨rfl,below_set (below_set (below_set hW.drew (by omega)) (by omega)) (by omega)⟩
end
end Go.Proofs.YtnfigjggjmncdaaGreat
