/- Contracts. -/
import Derived.BigQuiet
import Derived.Test.YtnfigjggjmncdaaGreatM1
set_option maxRecDepth 100000
set_option maxHeartbeats 4000000
namespace Go.Proofs.YtnfigjggjmncdaaGreat
section
open Go.RowKit
theorem nanInt_at (a:Int) (w:World):Calls Tryz.prog 185 #[.int .i64 a] w fun e w'=>e=.returned (.bool false)/\w=w':=by
 go_enter Tryz.func185,Tryz.ntmps185
 go_wp2
 go_ret
 exact⟨by simp,rfl⟩
theorem cmpInt_at (a b:Int) (w:World):Calls Tryz.prog 155 #[.int .i64 a,.int .i64 b] w fun e w'=>e=.returned (.int .i64 (Vals.cmpI a b))/\w=w':=by
 go_enter Tryz.func155,Tryz.ntmps155
 go_wp2_with fail
 refine (nanInt_at a w).mono ?_
 rintro e w' ⟨rfl,rfl⟩
 go_wp2_with fail
 refine (nanInt_at b w).mono ?_
 rintro e w' ⟨rfl,rfl⟩
 go_wp2
 all_goals (go_ret;refine ⟨ret_int ?_,rfl⟩;simp_all [Vals.cmpI])
 rw[if_neg (by omega),if_neg (by omega)]
def or3 (a b c:Int):Int:=if a≠0 then a else if b≠0 then b else c
theorem or_at (w:World) (g:Nat) (a b c:Int) (hB:Blk w g 3 #[.int .i64 a,.int .i64 b,.int .i64 c]):
  Calls Tryz.prog 167 #[.slice (some ⟨g,0,none⟩) 3 3] w fun e w'=>e=.returned (.int .i64 (or3 a b c))/\w=w':=by
 obtain⟨c0,c1,c2,f0,f1,f2⟩:=blk3 hB
 go_enter Tryz.func167,Tryz.ntmps167
 go_wp2_with fail
 go_loopw [8] (fun x wr=>∃q:Nat,q<=3/\x=.int .i64 (q:Int)/\w=wr/\(0<q->a=0)/\(1<q->b=0)/\(2<q->c=0)) (fun x _=>3-(intOf x).toNat)
 case atStart=>exact⟨0,by omega,rfl,rfl,by omega,by omega,by omega⟩
 case round=>
  obtain⟨q,hq,rfl,rfl,h0,h1,h2⟩:=hrel
  by_cases hlt:q<3
  ·obtain⟨v,hc,h3,h4⟩:∃v,w.cell? ⟨g,q,none⟩=some (.int .i64 v)/\(v=0->(0<q+1->a=0)/\(1<q+1->b=0)/\(2<q+1->c=0))/\(v≠0->or3 a b c=v):=by
    have h3:q=0∨q=1∨q=2:=by omega
    rcases h3 with rfl|rfl|rfl
    ·exact⟨a,c0,fun h=>⟨fun _=>h,by omega,by omega⟩,fun h=>by unfold or3;rw[if_pos h]⟩
    ·exact⟨b,c1,fun h=>⟨fun _=>h0 (by omega),fun _=>h,by omega⟩,fun h=>by unfold or3;rw[if_neg (by simp[h0]),if_pos h]⟩
    ·exact⟨c,c2,fun h=>⟨fun _=>h0 (by omega),fun _=>h1 (by omega),fun _=>h⟩,fun h=>by unfold or3;rw[if_neg (by simp[h0]),if_neg (by simp[h1])]⟩
   clear c0 c1 c2 f0 f1 f2 h0 h1 h2
   have hf:=hB.frozen q
   by_cases hv:v=0
   ·have h5:=Jh (h3 hv)
    subst hv
    clear h3 h4
    go_wp2_with fail
    go_roundw
    case rel=>exact⟨q+1,by omega,by go_num,trivial,h5.o⟩
    case measure=>simp[intOf];omega
   ·have hd:(v == 0)=false:=by simpa using hv
    have h5:=Jh (h4 hv)
    clear h3 h4 hv
    go_wp2_with fail
    go_ret
    exact⟨ret_int h5.o.symm,rfl⟩
  ·obtain rfl:q=3:=by omega
   have h5:Hid (or3 a b c=0):=by
    show _=_
    unfold or3
    simp[h0,h1,h2]
   clear c0 c1 c2 f0 f1 f2 h0 h1 h2
   go_wp2_with fail
   go_ret
   exact⟨ret_int h5.o.symm,rfl⟩
theorem Grown.drew {w w':World} (h:Grown w w'):Grown w w'.drew:=h.trans ⟨1,#[],by rw[Go.Sort.grow_empty];rfl⟩
theorem compare_gr (k i:Int) (t:LU) (k' i':Int) (t':LU) (w:World):
  Calls Tryz.prog 141 #[.agg (vC k i t.toArray),.agg (vC k' i' t'.toArray)] w fun e w'=>e=.returned (.int .i64 (Vals.cmp k i t k' i' t'))/\Grown w w':=by
 go_enter Tryz.func141,Tryz.ntmps141
 go_wp2_with fail
 have hB1:Blk ((w.alloc (.cells (vC k i t.toArray) 52)).alloc (.cells (vC k' i' t'.toArray) 52)) w.heap.size 52 (vC k i t.toArray):=(Blk.new w _ _).alloc _
 have hB2:Blk ((w.alloc (.cells (vC k i t.toArray) 52)).alloc (.cells (vC k' i' t'.toArray) 52)) (w.heap.size+1) 52 (vC k' i' t'.toArray):=by
  have:=Blk.new (w.alloc (.cells (vC k i t.toArray) 52)) 52 (vC k' i' t'.toArray)
  simpa using this
 have hb:Grown w ((w.alloc (.cells (vC k i t.toArray) 52)).alloc (.cells (vC k' i' t'.toArray) 52)):=((Grown.refl _).alloc _).alloc _
 generalize ((w.alloc (.cells (vC k i t.toArray) 52)).alloc (.cells (vC k' i' t'.toArray) 52))=w2 at *
 have hkeep:Hid (∀w',Grown w2 w'->Grown w2 w'/\w'.cell? ⟨w.heap.size,0,none⟩=some (.int .i64 k)/\w'.cell? ⟨w.heap.size,1,none⟩=some (.int .i64 i)/\w'.cell? ⟨w.heap.size,2,none⟩=some (.string ⟨t.toArray⟩)/\w'.cell? ⟨(w.heap.size+1),0,none⟩=some (.int .i64 k')/\w'.cell? ⟨(w.heap.size+1),1,none⟩=some (.int .i64 i')/\w'.cell? ⟨(w.heap.size+1),2,none⟩=some (.string ⟨t'.toArray⟩)):=fun w' h=>⟨h,(hB1.below h.below hB1.lt).cell 0,(hB1.below h.below hB1.lt).cell 1,(hB1.below h.below hB1.lt).cell 2,(hB2.below h.below hB2.lt).cell 0,(hB2.below h.below hB2.lt).cell 1,(hB2.below h.below hB2.lt).cell 2⟩
 have hS0:=hkeep.o w2.drew (Grown.refl _).drew
 refine wp_region_held_drew (S:=fun w'=>Grown w2 w'/\w'.cell? ⟨w.heap.size,0,none⟩=some (.int .i64 k)/\w'.cell? ⟨w.heap.size,1,none⟩=some (.int .i64 i)/\w'.cell? ⟨w.heap.size,2,none⟩=some (.string ⟨t.toArray⟩)/\w'.cell? ⟨(w.heap.size+1),0,none⟩=some (.int .i64 k')/\w'.cell? ⟨(w.heap.size+1),1,none⟩=some (.int .i64 i')/\w'.cell? ⟨(w.heap.size+1),2,none⟩=some (.string ⟨t'.toArray⟩)) (by kernel_rfl) hS0 (fun _=>?_)
 refine Jz 0 hS0 ?_
 refine Jz 1 hS0 ?_
 refine Jz 2 hS0 ?_
 refine Jz 3 hS0 ?_
 refine Jz 5 hS0 ?_
 refine Jz 6 hS0 ?_
 refine Jz 7 hS0 ?_
 refine Jz 8 hS0 ?_
 refine Jz 10 hS0 ?_
 refine Jz 11 hS0 ?_
 refine Jz 12 hS0 ?_
 refine Jz 13 hS0 ?_
 refine Je 4 (fun K hK1=>?_)
 go_simp
 with_reducible refine (cmpInt_at k k' _).mono ?_
 rintro e w' ⟨rfl,rfl⟩
 go_wp2_with fail
 refine hK1.o _ _ hS0 ?_
 refine Je 9 (fun K hK2=>?_)
 go_simp
 with_reducible refine (cmpInt_at i i' _).mono ?_
 rintro e w' ⟨rfl,rfl⟩
 go_wp2_with fail
 refine hK2.o _ _ hS0 ?_
 refine Je 14 (fun K hK3=>?_)
 go_simp
 with_reducible refine (cmpText_at t t' _).mono ?_
 rintro e w' ⟨rfl,rfl⟩
 go_wp2_with fail
 refine hK3.o _ _ hS0 ?_
 refine Je 15 (fun K hKb=>?_)
 go_simp
 have hbn:Grown w2 (w2.alloc (.cells #[.int .i64 (Vals.cmpI k k'),.int .i64 (Vals.cmpI i i'),.int .i64 (Vals.cmpT t t')] 3)).drew:=((Grown.refl _).alloc _).drew
 have hBn:Blk (w2.alloc (.cells #[.int .i64 (Vals.cmpI k k'),.int .i64 (Vals.cmpI i i'),.int .i64 (Vals.cmpT t t')] 3)).drew w2.heap.size 3 #[.int .i64 (Vals.cmpI k k'),.int .i64 (Vals.cmpI i i'),.int .i64 (Vals.cmpT t t')]:=Blk.new w2 _ _
 generalize (w2.alloc (.cells #[.int .i64 (Vals.cmpI k k'),.int .i64 (Vals.cmpI i i'),.int .i64 (Vals.cmpT t t')] 3)).drew=w3 at *
 have hS1:=hkeep.o w3 hbn
 refine hKb.o _ _ hS1 ?_
 refine Je 16 (fun K hK4=>?_)
 go_simp
 with_reducible refine (or_at _ _ _ _ _ hBn).mono ?_
 rintro e w' ⟨rfl,rfl⟩
 go_wp2_with fail
 refine hK4.o _ _ hS1 ?_
 refine Jz 17 hS1 ?_
 refine Jd ?_
 go_wp2_with fail
 go_ret
 exact⟨rfl,hb.trans hbn⟩
theorem cmp_lt1 (k i:Int) (t:LU) (k' i':Int) (t':LU) (h:k<k'):Vals.cmp k i t k' i' t' = -1:=by
 unfold Vals.cmp Vals.cmpI;simp[h]
theorem cmp_gt1 (k i:Int) (t:LU) (k' i':Int) (t':LU) (h:k'<k):Vals.cmp k i t k' i' t'=1:=by
 unfold Vals.cmp Vals.cmpI;simp[h,show ¬k<k' by omega]
theorem cmp_lt2 (k i:Int) (t:LU) (i':Int) (t':LU) (h:i<i'):Vals.cmp k i t k i' t' = -1:=by
 unfold Vals.cmp Vals.cmpI;simp[h]
theorem cmp_gt2 (k i:Int) (t:LU) (i':Int) (t':LU) (h:i'<i):Vals.cmp k i t k i' t'=1:=by
 unfold Vals.cmp Vals.cmpI;simp[h,show ¬i<i' by omega]
theorem cmp_eq2 (k i:Int) (t:LU) (t':LU):Vals.cmp k i t k i t'=Vals.cmpT t t':=by
 unfold Vals.cmp Vals.cmpI;simp
end
section
open Go.RowKit Go.Sort Ev
def gotV:Option At->Value
 | some a=>.tuple #[.agg (vC a.k a.i a.t.toArray),.bool true]
 | none=>.tuple #[.agg (vC 0 0 #[]),.bool false]
end
end Go.Proofs.YtnfigjggjmncdaaGreat
