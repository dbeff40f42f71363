/- Contracts. -/
import Derived.Shelf.SlSortCmp.NoneTotal
import Derived.Shelf.SlGeneric
import Derived.Test.YtnfigjggjmncdaaGreatProg
import Derived.Lib.SliceRun
import Derived.Shelf.Abstract
import Derived.Laws.Append
import Derived.Test.YtnfigjggjmncdaaGreatM1
import Derived.Test.YtnfigjggjmncdaaGreatA1
import Derived.Test.YtnfigjggjmncdaaGreatA4
set_option maxRecDepth 100000
set_option maxHeartbeats 4000000
namespace Go.Proofs
open Go.Shelf
def Tryz.sortV_ren:Go.Shelf.Ren:=⟨fun | 6=>140 | 15=>147 | 14=>166 | 28=>181 | 29=>125 | 20=>190 | 21=>191 | 22=>192 | 23=>193 | 24=>194 | 25=>195 | 26=>196 | 27=>197 | 46=>209 | 47=>201 | 48=>202 | 49=>210 | 50=>211 | 57=>214 | n=>n,fun | 22=>95 | 24=>52 | 25=>165 | 3=>3 | 39=>148 | 0=>0 | 53=>194 | 55=>68 | 4=>4 | 46=>188 | 45=>187 | 50=>149 | 5=>5 | 9=>9 | 66=>204 | 70=>207 | 76=>215 | 77=>216 | n=>n,fun | n=>n⟩
theorem Tryz.sortV:Go.Proofs.SlLaysF0.n6 Tryz.prog Tryz.sortV_ren:={
 mixed:=by kernel_rfl
 f6:=⟨Tryz.f140.name,by decide,Tryz.func140.trans (congrArg some (by kernel_rfl))⟩
 f14:=⟨Tryz.f166.name,by decide,Tryz.func166.trans (congrArg some (by kernel_rfl))⟩
 f15:=Tryz.func147.trans (congrArg some (by kernel_rfl))
 f20:=⟨Tryz.f190.name,by decide,Tryz.func190.trans (congrArg some (by kernel_rfl))⟩
 f21:=⟨Tryz.f191.name,by decide,Tryz.func191.trans (congrArg some (by kernel_rfl))⟩
 f22:=⟨Tryz.f192.name,by decide,Tryz.func192.trans (congrArg some (by kernel_rfl))⟩
 f23:=⟨Tryz.f193.name,by decide,Tryz.func193.trans (congrArg some (by kernel_rfl))⟩
 f24:=⟨Tryz.f194.name,by decide,Tryz.func194.trans (congrArg some (by kernel_rfl))⟩
 f25:=⟨Tryz.f195.name,by decide,Tryz.func195.trans (congrArg some (by kernel_rfl))⟩
 f26:=⟨Tryz.f196.name,by decide,Tryz.func196.trans (congrArg some (by kernel_rfl))⟩
 f27:=⟨Tryz.f197.name,by decide,Tryz.func197.trans (congrArg some (by kernel_rfl))⟩
 f28:=Tryz.func181.trans (congrArg some (by kernel_rfl))
 f29:=Tryz.func125.trans (congrArg some (by kernel_rfl))
 f46:=⟨Tryz.f209.name,by decide,Tryz.func209.trans (congrArg some (by kernel_rfl))⟩
 f47:=Tryz.func201.trans (congrArg some (by kernel_rfl))
 f48:=Tryz.func202.trans (congrArg some (by kernel_rfl))
 f49:=⟨Tryz.f210.name,by decide,Tryz.func210.trans (congrArg some (by kernel_rfl))⟩
 f50:=⟨Tryz.f211.name,by decide,Tryz.func211.trans (congrArg some (by kernel_rfl))⟩
 f57:=⟨Tryz.f214.name,by decide,Tryz.func214.trans (congrArg some (by kernel_rfl))⟩
 t0:=Tryz.underlying0
 a0:=Tryz.isAgg0
 z0:=Tryz.sizeOf0
 v0:=Tryz.zeroValue0
 t3:=Tryz.underlying3
 a3:=Tryz.isAgg3
 z3:=Tryz.sizeOf3
 v3:=Tryz.zeroValue3
 t4:=Tryz.underlying4
 a4:=Tryz.isAgg4
 z4:=Tryz.sizeOf4
 v4:=Tryz.zeroValue4
 t5:=Tryz.underlying5
 a5:=Tryz.isAgg5
 z5:=Tryz.sizeOf5
 v5:=Tryz.zeroValue5
 t9:=Tryz.underlying9
 a9:=Tryz.isAgg9
 z9:=Tryz.sizeOf9
 v9:=Tryz.zeroValue9
 t22:=Tryz.underlying95
 a22:=Tryz.isAgg95
 z22:=Tryz.sizeOf95
 v22:=Tryz.zeroValue95
 t25:=Tryz.underlying165
 a25:=Tryz.isAgg165
 z25:=Tryz.sizeOf165
 v25:=Tryz.zeroValue165
 t39:=Tryz.underlying148
 a39:=Tryz.isAgg148
 z39:=Tryz.sizeOf148
 v39:=Tryz.zeroValue148
 t45:=Tryz.underlying187
 a45:=Tryz.isAgg187
 z45:=Tryz.sizeOf187
 v45:=Tryz.zeroValue187
 t46:=Tryz.underlying188
 a46:=Tryz.isAgg188
 z46:=Tryz.sizeOf188
 v46:=Tryz.zeroValue188
 t50:=Tryz.underlying149
 a50:=Tryz.isAgg149
 z50:=Tryz.sizeOf149
 v50:=Tryz.zeroValue149
 t53:=Tryz.underlying194
 a53:=Tryz.isAgg194
 z53:=Tryz.sizeOf194
 v53:=Tryz.zeroValue194
 t55:=Tryz.underlying68
 a55:=Tryz.isAgg68
 z55:=Tryz.sizeOf68
 v55:=Tryz.zeroValue68
 t66:=Tryz.underlying204
 a66:=Tryz.isAgg204
 z66:=Tryz.sizeOf204
 v66:=Tryz.zeroValue204
 t70:=Tryz.underlying207
 a70:=Tryz.isAgg207
 z70:=Tryz.sizeOf207
 v70:=Tryz.zeroValue207
 t76:=Tryz.underlying215
 a76:=Tryz.isAgg215
 z76:=Tryz.sizeOf215
 v76:=Tryz.zeroValue215
 t77:=Tryz.underlying216
 a77:=Tryz.isAgg216
 z77:=Tryz.sizeOf216
 v77:=Tryz.zeroValue216 }
end Go.Proofs
namespace Go.Proofs.YtnfigjggjmncdaaGreat
section
open Go.RowKit Go.Sort Go.Shelf Go.Lib Spans
def Lies (w:World) (g:Nat) (es:List Val) (sp:List Value):Prop:=Blk w g 52 (es.flatMap cellsV++sp).toArray
theorem Lies.rd {w:World} {g:Nat} {es:List Val} {sp:List Value} (h:Lies w g es sp):RdW w (some ⟨g,0,none⟩) es:=
 rdk_of_flat (L:=layV) h (by
  rw[show (es.flatMap cellsV++sp).toArray.toList=es.flatMap cellsV++sp from rfl]
  exact List.take_left' (flatL_length (L:=layV) es))
theorem lies_of_own {w:World} {base:Nat} {v:Value} {es:List Val} (h:OwnW w base v es):(v=.slice none 0 0/\es=[])∨∃g cap sp,v=.slice (some ⟨g,0,none⟩) es.length cap/\base<=g/\es.length<=cap/\cap<=maxLen/\Lies w g es sp/\es.length*3+sp.length=cap*3:=by
 rcases h.2 with ⟨rfl,hn⟩|⟨g,cap,cur,rfl,hb,hg,hc,hm,hs,ht⟩
 ·exact .inl ⟨rfl,List.eq_nil_of_length_eq_zero hn⟩
 ·refine .inr ⟨g,cap,cur.toList.drop (es.length*3),rfl,hb,hc,hm,?_,?_⟩
  ·unfold Lies Blk
   have e:es.flatMap cellsV=cur.toList.take (es.length*3):=ht.symm
   rw[e,List.take_append_drop]
   exact hg
  ·have hs':cur.size=cap*3:=hs
   simp;omega
theorem own_of_lies {w:World} {base g cap:Nat} {es:List Val} {sp:List Value} (h:Lies w g es sp) (hb:base<=g) (hc:es.length<=cap) (hm:cap<=maxLen) (hs:es.length*3+sp.length=cap*3):OwnW w base (.slice (some ⟨g,0,none⟩) es.length cap) es:=by
 have hl:(es.flatMap cellsV).length=es.length*3:=flatL_length (L:=layV) es
 refine ⟨flatL_length es,.inr ⟨g,cap,_,rfl,hb,h,hc,hm,?_,?_⟩⟩
 ·show (es.flatMap cellsV++sp).toArray.size=cap*3
  simp only[List.size_toArray,List.length_append,hl];exact hs
 ·exact List.take_left' hl
def cfV (x y:Val):Int:=Vals.cmp x.k x.i x.t y.k y.i y.t
theorem ltOf_cfV (x y:Val):ltOf cfV x y=true↔Vals.cmp x.k x.i x.t y.k y.i y.t<0:=by
 unfold ltOf cfV;simp
theorem ltOf_cfV' (x y:Val):ltOf cfV x y=false↔¬Vals.cmp x.k x.i x.t y.k y.i y.t<0:=by
 rw[<-ltOf_cfV];simp
theorem val_eq_iff (x y:Val):Vals.cmp x.k x.i x.t y.k y.i y.t=0↔x=y:=by
 rw[Vals.cmp_zero]
 exact⟨fun ⟨a,b,c⟩=>Val.ext_ a b c,fun h=>by subst h;exact⟨rfl,rfl,rfl⟩⟩
theorem swo_cfV:SWO (ltOf cfV) where
 irrefl x:=by rw[ltOf_cfV',(val_eq_iff x x).2 rfl];omega
 trans x y z h1 h2:=by
  rw[ltOf_cfV] at *
  have h3:=Vals.cmp_trans _ _ _ _ _ _ _ _ _ (Int.le_of_lt h1) (Int.le_of_lt h2)
  have h4:Vals.cmp x.k x.i x.t z.k z.i z.t≠0:=fun h=>by
   have e:=(val_eq_iff x z).1 h
   subst e
   have:=Vals.cmp_neg y.k y.i y.t x.k x.i x.t
   omega
  omega
 ntrans x y z h1 h2:=by
  rw[ltOf_cfV'] at *
  have a1:=Vals.cmp_neg x.k x.i x.t y.k y.i y.t
  have a2:=Vals.cmp_neg y.k y.i y.t z.k z.i z.t
  have a3:=Vals.cmp_neg x.k x.i x.t z.k z.i z.t
  have h3:=Vals.cmp_trans z.k z.i z.t y.k y.i y.t x.k x.i x.t (by omega) (by omega)
  omega
theorem cmpLaysV (blk off size:Nat) (w:World):CmpLays Tryz.prog 141 #[] cellsV 3 cfV blk off size w:=
 fun _ _ _ _ x y=>compare_gr x.k x.i x.t y.k y.i y.t _
theorem lies_holds {w:World} {g:Nat} {es:List Val} {sp:List Value} (hB:Lies w g es sp):HoldsK cellsV 3 w g 0 es.toArray:=by
 unfold HoldsK Holds
 have e:=flatL_flatK (L:=layV) es
 rw[show flatK cellsV 3 es.toArray=(es.flatMap cellsV).toArray from e]
 intro j hj
 rw[Nat.zero_add]
 refine ⟨?_,hB.frozen j⟩
 have hj':j<(es.flatMap cellsV).length:=by simpa using hj
 rw[hB.cell j,getElem!_pos _ j hj]
 simp[List.getElem?_append_left hj']
theorem touch_sortWorld (g n:Nat) (w:World) (d:Array Val) (os:Array Obj):Touch g w (sortWorldK cellsV 3 w g 0 n d os):=by
 refine ⟨rfl,rfl,rfl,by simp[sortWorldK,putRowK,putRow,mapBlock],fun k hk hne=>?_⟩
 have hne':g≠k:=fun h=>hne (by rw[h])
 show ((w.heap.modify g _)++os)[k]?=_
 rw[Array.getElem?_append_left (by simp;omega),Array.getElem?_modify,if_neg hne']
theorem lies_sortWorld {g n:Nat} {w:World} {es out:List Val} {sp:List Value} {os:Array Obj} (hB:Lies w g es sp) (hl:out.length=es.length):
  Lies (sortWorldK cellsV 3 w g 0 n out.toArray os) g out sp:=by
 unfold Lies Blk
 have e:=flatL_flatK (L:=layV) out
 show ((w.heap.modify g (onCells (putCells id 0 (flatK cellsV 3 out.toArray))))++os)[g]?=_
 rw[Array.getElem?_append_left (by simp;exact hB.lt),Array.getElem?_modify,if_pos rfl,hB,show flatK cellsV 3 out.toArray=(out.flatMap cellsV).toArray from e]
 simp only[Option.map_some,onCells,Option.some.injEq,Obj.cells.injEq,and_true]
 have l1:(out.flatMap cellsV).length=out.length*3:=flatL_length (L:=layV) out
 have l2:(es.flatMap cellsV).length=es.length*3:=flatL_length (L:=layV) es
 refine Array.ext ?_ fun k h1 h2=>?_
 ·rw[putCells,Array.size_mapIdx,List.size_toArray,List.size_toArray,List.length_append,List.length_append,l1,l2,hl]
 ·simp only[putCells,Array.getElem_mapIdx,Nat.zero_le,true_and,Nat.zero_add,Nat.sub_zero]
  by_cases hk:k<(out.flatMap cellsV).length
  ·have hk2:k<(out.flatMap cellsV).toArray.size:=by simpa using hk
   rw[if_pos hk2,getElem!_pos _ k hk2]
   simp[List.getElem_append_left hk]
  ·have hk2:¬k<(out.flatMap cellsV).toArray.size:=by simpa using hk
   rw[if_neg hk2]
   simp only[List.getElem_toArray]
   rw[List.getElem_append_right (by omega),List.getElem_append_right (by omega)]
   congr 1
   omega
def SortedV (l:List Val):Prop:=l.Pairwise fun a b=>Vals.cmp a.k a.i a.t b.k b.i b.t<=0
theorem sortV_at (g:Nat) (es:List Val) (n cap:Nat) (sp:List Value) (hn:es.length=n) (hm:n<=100000) (w:World) (hB:Lies w g es sp):
  Calls Tryz.prog 140 #[.slice (some ⟨g,0,none⟩) n cap,.func (.func 141) #[] #[]] w fun e w'=>
   e=.returned (.tuple #[])/\∃out,out.Perm es/\SortedV out/\Lies w' g out sp/\Touch g w w':=by
 have eg:∀args w,(callFunc 141 args).run Tryz.prog w=.ok (.enter 141 args) w:=enters_of Tryz.func141 (by kernel_rfl) rfl
 have hcon:=AnyQ.slices_SortFunc Tryz.sortV 3 Tryz.isAgg52 Tryz.sizeOf52 cellsV (fun _=>rfl) (fun x v hv=>layV.one x v hv) cfV swo_cfV 141 #[] g 0 cap es.toArray w eg (cmpLaysV g 0 _ w) (lies_holds hB) hB.lt (by simp;omega)
 subst hn
 refine Calls.mono hcon ?_
 rintro e w' ⟨rfl,d',q,os,hp,hs,rfl⟩
 obtain⟨hsz,_,hperm⟩:=hp
 have hsz':d'.toList.length=es.length:=by simpa using hsz
 have hperm':d'.toList.Perm es:=by
  have e1:d'.extract 0 es.toArray.size=d':=by rw[<-hsz];simp
  have e2:es.toArray.extract 0 es.toArray.size=es.toArray:=by simp
  rw[e1,e2] at hperm
  simpa using hperm
 refine ⟨rfl,d'.toList,hperm',?_,?_,touch_sortWorld _ _ _ _ _⟩
 ·unfold SortedV
  rw[List.pairwise_iff_getElem]
  intro i j hi hj hij
  have:=hs i j (Nat.zero_le _) hij (by simpa[<-hsz'] using hj)
  have hi':i<d'.size:=by simpa using hi
  have hj':j<d'.size:=by simpa using hj
  rw[getElem!_pos d' j hj',getElem!_pos d' i hi',ltOf_cfV'] at this
  simp only[Array.getElem_toList]
  have a1:=Vals.cmp_neg d'[i].k d'[i].i d'[i].t d'[j].k d'[j].i d'[j].t
  omega
 ·have:=lies_sortWorld (n:=q) (os:=os) hB hsz'
  simpa using this
theorem sortV_none (cap:Nat) (A:OA) (w:World):Calls Tryz.prog 140 #[.slice A 0 cap,.func (.func 141) #[] #[]] w fun e w'=>e=.returned (.tuple #[])/\w'=w:=
 AnyF.slices_SortFunc_none { Tryz.sortV with } A cap _ w
end
section
open Go.RowKit Go.Sort Spans
theorem Lies.at3 {w:World} {g:Nat} {es:List Val} {sp:List Value} (h:Lies w g es sp) {k:Nat} (hk:k<es.length):
  w.cell? ⟨g,k*3,none⟩=some (.int .i64 es[k].k)/\w.cell? ⟨g,k*3+1,none⟩=some (.int .i64 es[k].i)/\w.cell? ⟨g,k*3+2,none⟩=some (.string ⟨es[k].t.toArray⟩):=by
 obtain⟨g',off,e,_,c0,c1,c2⟩:=RdW.at3 h.rd hk
 injection e with e
 injection e with e1 e2
 subst e1;subst e2
 rw[Nat.zero_add] at c0 c1 c2
 exact⟨c0,c1,c2⟩
theorem flat_set (x:Val) (sp:List Value):∀(cs:List Val) (i:Nat),i<cs.length ->
  (((cs.flatMap cellsV++sp).set (i*3) (.int .i64 x.k)).set (i*3+1) (.int .i64 x.i)).set (i*3+2) (.string ⟨x.t.toArray⟩)=(cs.set i x).flatMap cellsV++sp
 | [],_,h=>by simp at h
 | y::r,0,_=>by simp[cellsV]
 | y::r,i+1,h=>by
  have ih:=flat_set x sp r i (by simpa using h)
  rw[show (i+1)*3=i*3+1+1+1 by omega]
  simp only[List.flatMap_cons,cellsV,List.cons_append,List.nil_append,List.set_cons_succ]
  rw[ih]
theorem Lies.set {w:World} {g:Nat} {cs:List Val} {sp:List Value} (h:Lies w g cs sp) (i:Nat) (hi:i<cs.length) (x:Val):
  Lies (((w.setCell ⟨g,i*3,none⟩ (.int .i64 x.k)).setCell ⟨g,i*3+1,none⟩ (.int .i64 x.i)).setCell ⟨g,i*3+2,none⟩ (.string ⟨x.t.toArray⟩)) g (cs.set i x) sp:=by
 have h3:=((Blk.put h (i*3) (.int .i64 x.k)).put (i*3+1) (.int .i64 x.i)).put (i*3+2) (.string ⟨x.t.toArray⟩)
 unfold Lies
 rw[<-flat_set x sp cs i hi]
 simpa using h3
theorem touch_set3 (w:World) (g i j k:Nat) (a b c:Value):Touch g w (((w.setCell ⟨g,i,none⟩ a).setCell ⟨g,j,none⟩ b).setCell ⟨g,k,none⟩ c):=(((Touch.refl g w).set_ i a).set_ j b).set_ k c
theorem touch_setRow (w:World) (g:Nat) (cs:Array Value):Touch g w (w.setRow g cs):=
 ⟨rfl,rfl,rfl,by simp[World.setRow],fun k _ hne=>setRow_other w g k cs (fun h=>hne (by rw[h]))⟩
theorem Touch.drewN {g:Nat} {a w:World} (h:Touch g a w) (n:Nat):Touch g a (w.drewN n):=⟨h.os,h.tape,h.output,h.size,h.block⟩
theorem Touch.drew {g:Nat} {a w:World} (h:Touch g a w):Touch g a w.drew:=⟨h.os,h.tape,h.output,h.size,h.block⟩
theorem Lies.drew {w:World} {g:Nat} {cs:List Val} {sp:List Value} (h:Lies w g cs sp):Lies w.drew g cs sp:=h
theorem Lies.clear {w:World} {g:Nat} {cs:List Val} {sp:List Value} (h:Lies w g cs sp) (i n:Nat) (hn:cs.length=n) (hi:i<n) (c:Nat):
  ∃w' sp',(∀ty,(Builtin.clear_ #[95] ty #[.slice (some ⟨g,i*3,none⟩) (n-i) c]).run Tryz.prog w=.ok (.tuple #[]) w')/\Lies w' g (cs.take i) sp'/\Touch g w w'/\i*3+sp'.length=n*3+sp.length:=by
 subst hn
 have hl:(cs.flatMap cellsV).length=cs.length*3:=flatL_length (L:=layV) cs
 obtain⟨Z,hZ⟩:∃Z,(Builtin.zeroCells (Value.agg (vC 0 0 #[])).cells (cs.length-i)).toList=Z:=⟨_,rfl⟩
 have hZl:Z.length=(cs.length-i)*3:=by rw[<-hZ];simp[size_zeroCells,Value.cells]
 have hZ1:∀v∈Z,v.oneCell'=true:=by
  intro v hv
  rw[<-hZ] at hv
  simp only[Builtin.zeroCells,Value.cells,Array.toList_map,List.mem_map] at hv
  obtain⟨j,_,rfl⟩:=hv
  have:j % 3=0∨j % 3=1∨j % 3=2:=by omega
  rcases this with e|e|e
  ·show (#[Value.int .i64 0,.int .i64 0,.string ⟨#[]⟩][j % 3]!).oneCell'=true;rw[e];rfl
  ·show (#[Value.int .i64 0,.int .i64 0,.string ⟨#[]⟩][j % 3]!).oneCell'=true;rw[e];rfl
  ·show (#[Value.int .i64 0,.int .i64 0,.string ⟨#[]⟩][j % 3]!).oneCell'=true;rw[e];rfl
 have hst:=run_storeCells_at Tryz.prog g (i*3) 52 Z 0 _ w h (by simp only[List.size_toArray,List.length_append,hl,hZl];omega) hZ1
 have e1:(cs.flatMap cellsV++sp).take (i*3)=(cs.take i).flatMap cellsV:=by
  have:(cs.take i).flatMap cellsV++(cs.drop i).flatMap cellsV=cs.flatMap cellsV:=by rw[<-List.flatMap_append,List.take_append_drop]
  rw[<-this,List.append_assoc]
  exact List.take_left' (by rw[show ((cs.take i).flatMap cellsV).length=(cs.take i).length*3 from flatL_length (L:=layV) _];simp;omega)
 have e2:i*3+Z.length=cs.length*3:=by omega
 obtain⟨sp',hsp⟩:∃sp',Z++(cs.flatMap cellsV++sp).drop (cs.length*3)=sp':=⟨_,rfl⟩
 have hst':(storeCells ⟨g,i*3,none⟩ Z).run Tryz.prog w=.ok () (w.setRow g ((cs.take i).flatMap cellsV++sp').toArray):=by
  rw[hst,Nat.add_zero,show ((cs.flatMap cellsV++sp).toArray.toList)=cs.flatMap cellsV++sp from rfl,e1,e2,List.append_assoc,hsp]
 have hlen:i*3+sp'.length=cs.length*3+sp.length:=by
  rw[<-hsp]
  simp only[List.length_append,List.length_drop,hZl,hl];omega
 refine ⟨w.setRow g ((cs.take i).flatMap cellsV++sp').toArray,sp',fun ty=>?_,setRow_heap w g _ _ _ _ h,touch_setRow w g _,hlen⟩
 obtain⟨m,hm⟩:∃m,cs.length-i=m+1:=⟨cs.length-i-1,by omega⟩
 rw[hm] at hZ ⊢
 simp[Builtin.clear_,run_underlying Tryz.underlying95,hZ,hst']
def StrictV (l:List Val):Prop:=l.Pairwise fun a b=>Vals.cmp a.k a.i a.t b.k b.i b.t<0
theorem lt_new {es:List Val} (hS:SortedV es) {p:Nat} (hlt:p<es.length) (hne:es[p]≠es[p-1]):∀v∈es.take p,Vals.cmp v.k v.i v.t es[p].k es[p].i es[p].t<0:=by
 intro v hv
 obtain⟨j,hj,rfl⟩:=List.mem_iff_getElem.1 hv
 have hj':j<p:=by simp at hj;omega
 rw[List.getElem_take]
 have hP:=List.pairwise_iff_getElem.1 hS
 have h1:=hP (p-1) p (by omega) hlt (by omega)
 have h2:Vals.cmp es[p-1].k es[p-1].i es[p-1].t es[p].k es[p].i es[p].t≠0:=fun h=>hne ((val_eq_iff _ _).1 h).symm
 have h3:=hP j p (by omega) hlt hj'
 have h4:Vals.cmp es[j].k es[j].i es[j].t es[p].k es[p].i es[p].t≠0:=fun h=>by
  have e:=(val_eq_iff _ _).1 h
  by_cases hjp:j=p-1
  ·exact hne (by rw[<-e];congr 1)
  ·have h5:=hP j (p-1) (by omega) (by omega) (by omega)
   rw[e] at h5
   have:=Vals.cmp_neg es[p-1].k es[p-1].i es[p-1].t es[p].k es[p].i es[p].t
   omega
 omega
theorem strict_snoc {l:List Val} {x:Val} (h:StrictV l) (hx:∀v∈l,Vals.cmp v.k v.i v.t x.k x.i x.t<0):StrictV (l++[x]):=by
 unfold StrictV
 rw[List.pairwise_append]
 exact⟨h,by simp,fun a ha b hb=>by simp at hb;subst hb;exact hx a ha⟩
theorem take_snoc {es:List Val} {p:Nat} (h:p<es.length):es.take (p+1)=es.take p++[es[p]]:=List.take_succ_eq_append_getElem h
theorem mem_prev {es:List Val} {p:Nat} (h1:1<=p) (h:p<es.length):es[p-1]∈es.take p:=by
 rw[List.mem_iff_getElem]
 exact⟨p-1,by simp;omega,by rw[List.getElem_take]⟩
structure CompInv (es:List Val) (p i:Nat) (cs:List Val):Prop where
 len:cs.length=es.length
 pos:1<=i
 lt:i<p
 le:p<=es.length
 high:∀j,p-1<=j->cs[j]?=es[j]?
 strict:StrictV (cs.take i)
 mem:∀v,v∈cs.take i↔v∈es.take p
theorem CompInv.start {es:List Val} {k:Nat} (h1:1<=k) (hlt:k<es.length) (hs:StrictV (es.take k)) (e:es[k]=es[k-1]):CompInv es (k+1) k es:=
 ⟨rfl,h1,by omega,by omega,fun _ _=>rfl,hs,fun v=>by
  rw[take_snoc hlt,e]
  have:=mem_prev h1 hlt
  simp only[List.mem_append,List.mem_singleton]
  exact⟨.inl,fun h=>h.elim id (fun h=>h ▸ this)⟩⟩
theorem CompInv.skip {es cs:List Val} {p i:Nat} (h:CompInv es p i cs) (hlt:p<es.length) (e:es[p]=es[p-1]):CompInv es (p+1) i cs:=
 ⟨h.len,h.pos,by have:=h.lt;omega,by omega,fun j hj=>h.high j (by omega),h.strict,fun v=>by
  rw[h.mem,take_snoc hlt,e]
  have:=mem_prev (by have:=h.lt;omega) hlt
  simp only[List.mem_append,List.mem_singleton]
  exact⟨.inl,fun h=>h.elim id (fun h=>h ▸ this)⟩⟩
theorem CompInv.keep {es cs:List Val} {p i:Nat} (hS:SortedV es) (h:CompInv es p i cs) (hlt:p<es.length) (e:es[p]≠es[p-1]):CompInv es (p+1) (i+1) (cs.set i es[p]):=by
 have hi:i<cs.length:=by have:=h.lt;have:=h.len;omega
 have ht:(cs.set i es[p]).take (i+1)=cs.take i++[es[p]]:=by
  rw[List.take_succ_eq_append_getElem (by simpa using hi),List.take_set,List.set_eq_of_length_le (by simp;omega)]
  simp
 refine ⟨by simp[h.len],by omega,by have:=h.lt;omega,by omega,fun j hj=>?_,?_,fun v=>?_⟩
 ·rw[List.getElem?_set_ne (by have:=h.lt;omega)]
  exact h.high j (by omega)
 ·rw[ht]
  exact strict_snoc h.strict fun v hv=>lt_new hS hlt e v ((h.mem v).1 hv)
 ·rw[ht,take_snoc hlt]
  simp only[List.mem_append,List.mem_singleton,h.mem]
def Compacts (w:World) (g:Nat) (es:List Val) (n cap:Nat) (sp:List Value) (e:Ending) (w':World):Prop:=
 ∃out m sp',e=.returned (.slice (some ⟨g,0,none⟩) m cap)/\out.length=m/\m<=n/\StrictV out/\(∀v,v∈out↔v∈es)/\Lies w' g out sp'/\m*3+sp'.length=n*3+sp.length/\Touch g w w'
theorem compactV_at (g:Nat) (es:List Val) (n cap:Nat) (sp:List Value) (hn:es.length=n) (hm:n<=100000) (hc:n<=cap) (hcm:cap<=maxLen) (hS:SortedV es) (w:World) (hB:Lies w g es sp):
  Calls Tryz.prog 142 #[.slice (some ⟨g,0,none⟩) n cap] w (Compacts w g es n cap sp):=by
 have HN:=Jh hn
 have HS:=Jh hS
 have HB0:=Jh hB
 rw[maxLen_num] at hcm
 clear hn hS
 have hG:=eqGuardV
 by_cases h2:n<2
 ·have hst:Hid (StrictV es):=by
   show StrictV es
   have:=HN.o
   match es,this with
   | [],_=>exact List.Pairwise.nil
   | [x],_=>exact List.pairwise_singleton _ _
   | _::_::_,h=>simp at h;omega
  go_enter Tryz.func142,Tryz.ntmps142
  go_wp2_with fail
  go_ret
  exact⟨es,n,sp,rfl,HN.o,Jn,hst.o,fun _=>Iff.rfl,HB0.o,rfl,Touch.refl _ _⟩
 ·clear hB
  go_enter Tryz.func142,Tryz.ntmps142
  go_wp2_with fail
  go_loopg [3] n (fun gg s3 wr=>∃k:Nat,1<=k/\k<=n/\n-k<=gg/\s3=.int .i64 (k:Int)/\Hid (Lies wr g es sp)/\Hid (Touch g w wr)/\Hid (StrictV (es.take k)))
  case atStart=>
   refine ⟨1,Jn,by omega,by omega,rfl,HB0,Touch.refl _ _,?_⟩
   show StrictV _
   match es with
   | []=>exact List.Pairwise.nil
   | x::r=>exact List.pairwise_singleton _ _
  case round=>
   obtain⟨k,hk1,hk,hgg,rfl,HL,HT,HP⟩:=hrel
   clear HB0
   by_cases hlt:k<n
   ·have hk':k<es.length:=by rw[HN.o];exact hlt
    obtain⟨c0,c1,c2⟩:=HL.o.at3 hk'
    obtain⟨d0,d1,d2⟩:=HL.o.at3 (k:=k-1) (by omega)
    obtain⟨x,hx⟩:∃x,es[k]=x:=⟨_,rfl⟩
    obtain⟨y,hy⟩:∃y,es[k-1]=y:=⟨_,rfl⟩
    have HX:=Jh hx
    have HY:=Jh hy
    rw[hx] at c0 c1 c2
    rw[hy] at d0 d1 d2
    clear hx hy
    obtain⟨xk,xi,xt⟩:=x
    obtain⟨yk,yi,yt⟩:=y
    have w1:IntKind.i64.wrap ((k:Int)-1)=(k:Int)-1:=by rw[IntKind.wrap_i64];omega
    have w2:(0:Int)<=(k:Int)-1:=by omega
    have w3:(k:Int)-1<(n:Int):=by omega
    have w4:((k:Int)-1).toNat=k-1:=by omega
    have w5:(k:Int)<(n:Int):=by omega
    have w6:(1:Int)<=(k:Int):=by omega
    go_wp2_with fail
    refine wp_region_held_drew (S:=fun w'=>w'=wr.drew) (by kernel_rfl) rfl (fun _=>?_)
    refine Jz 0 rfl ?_
    refine Jz 1 rfl ?_
    refine Jz 2 rfl ?_
    refine Jz 3 rfl ?_
    refine Jz 4 rfl ?_
    refine Jz 5 rfl ?_
    refine Jz 6 rfl ?_
    refine Jz 7 rfl ?_
    refine Jz 8 rfl ?_
    refine wpAnyH_yes (i:=9) (d:=25) (v:=.bool (decide ((⟨xk,xi,xt⟩:Val)=⟨yk,yi,yt⟩))) rfl rfl (by kernel_rfl) (by kernel_rfl) (by kernel_rfl) (fun _ _ _ h=>h) (by rfl) ?_ rfl ?_
    ·intro w' hSw;subst hSw;go_simp
     by_cases a1:xk=yk<;>by_cases a2:xi=yi<;>by_cases a3:xt=yt<;>simp[a1,a2,a3]
    simp only[Act.put,zu0,zu1,zu2]
    refine Jd ?_
    clear w1 w2 w3 w4 w5 w6 c0 c1 c2 d0 d1 d2
    by_cases hxy:(⟨xk,xi,xt⟩:Val)=⟨yk,yi,yt⟩
    ·have HI:Hid (CompInv es (k+1) k es):=CompInv.start hk1 hk' HP.o (by rw[HX.o,HY.o];exact hxy)
     have hd:decide ((⟨xk,xi,xt⟩:Val)=⟨yk,yi,yt⟩)=true:=decide_eq_true hxy
     rw[hd]
     clear hd hxy HX HY HP
     have hcut:∀W,(Instr.slice 95 (.slice (some ⟨g,0,none⟩) n cap) (some (.int .i64 (k:Int))) none none).run Tryz.prog W=.ok (.slice (some ⟨g,k*3,none⟩) (n-k) (cap-k)) W:=fun W=>by
      have h1:(0:Int)<=(k:Int):=by omega
      have h2:(k:Int)<=(n:Int):=by omega
      have h3:¬cap=k:=by omega
      go_simp
     go_wp2_with fail
     clear hcut
     have HL1:Hid (Lies wr.drew g es sp):=HL.o.drew
     have HT1:Hid (Touch g w wr.drew):=HT.o.drew
     clear HL HT
     go_loopg [3,5] n (fun gg s3 s5 wr=>∃(i m:Nat) (cs:List Val),s3=.int .i64 (i:Int)/\s5=.int .i64 (m:Int)/\1<=m/\k+m<=n/\n-(k+m)<=gg/\i<k+m/\Hid (CompInv es (k+m) i cs)/\Hid (Lies wr g cs sp)/\Hid (Touch g w wr))
     case atStart=>exact⟨k,1,es,rfl,rfl,Jn,by omega,by omega,by omega,HI,HL1,HT1⟩
     case round=>
      obtain⟨i,m,cs,rfl,rfl,hm1,hkm,hg2,hik,HI2,HL,HT⟩:=hrel
      clear HI HL1 HT1
      have hcl:Hid (cs.length=n):=HI2.o.len.trans HN.o
      by_cases hlt2:k+m<n
      ·have hkm':k+m<cs.length:=by rw[hcl.o];exact hlt2
       have hkm2:k+m<es.length:=by rw[HN.o];exact hlt2
       obtain⟨c0,c1,c2⟩:=HL.o.at3 hkm'
       obtain⟨d0,d1,d2⟩:=HL.o.at3 (k:=k+m-1) (by omega)
       obtain⟨x,hx⟩:∃x,es[k+m]=x:=⟨_,rfl⟩
       obtain⟨y,hy⟩:∃y,es[k+m-1]=y:=⟨_,rfl⟩
       have HX:=Jh hx
       have HY:=Jh hy
       have gx:cs[k+m]=x:=by
        have:=HI2.o.high (k+m) (by omega)
        rw[List.getElem?_eq_getElem hkm',List.getElem?_eq_getElem hkm2,hx] at this
        exact Option.some.inj this
       have gy:cs[k+m-1]=y:=by
        have:=HI2.o.high (k+m-1) (by omega)
        rw[List.getElem?_eq_getElem (by omega),List.getElem?_eq_getElem (by omega),hy] at this
        exact Option.some.inj this
       rw[gx,show (k+m)*3=k*3+m*3 by omega] at c0 c1 c2
       rw[gy,show (k+m-1)*3=k*3+(m-1)*3 by omega] at d0 d1 d2
       clear hx hy gx gy
       obtain⟨xk,xi,xt⟩:=x
       obtain⟨yk,yi,yt⟩:=y
       have w1:IntKind.i64.wrap ((m:Int)-1)=(m:Int)-1:=by rw[IntKind.wrap_i64];omega
       have w2:(0:Int)<=(m:Int)-1:=by omega
       have w3:(m:Int)-1<((n-k:Nat):Int):=by omega
       have w4:((m:Int)-1).toNat=m-1:=by omega
       have w5:(m:Int)<((n-k:Nat):Int):=by omega
       have w6:(1:Int)<=(m:Int):=by omega
       go_wp2_with fail
       refine wp_region_held_drew (S:=fun w'=>w'=wr.drew) (by kernel_rfl) rfl (fun _=>?_)
       refine Jz 0 rfl ?_
       refine Jz 1 rfl ?_
       refine Jz 2 rfl ?_
       refine Jz 3 rfl ?_
       refine Jz 4 rfl ?_
       refine Jz 5 rfl ?_
       refine Jz 6 rfl ?_
       refine Jz 7 rfl ?_
       refine Jz 8 rfl ?_
       refine wpAnyH_yes (i:=9) (d:=44) (v:=.bool (!decide ((⟨xk,xi,xt⟩:Val)=⟨yk,yi,yt⟩))) rfl rfl (by kernel_rfl) (by kernel_rfl) (by kernel_rfl) (fun _ _ _ h=>h) (by rfl) ?_ rfl ?_
       ·intro w' hSw;subst hSw;go_simp
        by_cases a1:xk=yk<;>by_cases a2:xi=yi<;>by_cases a3:xt=yt<;>simp[a1,a2,a3]
       simp only[Act.put,zu0,zu1,zu2]
       refine Jd ?_
       clear w1 w2 w3 w4 w5 w6
       by_cases hxy:(⟨xk,xi,xt⟩:Val)=⟨yk,yi,yt⟩
       ·have HI3:Hid (CompInv es (k+m+1) i cs):=HI2.o.skip hkm2 (by rw[HX.o,HY.o];exact hxy)
        have hd:(!decide ((⟨xk,xi,xt⟩:Val)=⟨yk,yi,yt⟩))=false:=by rw[decide_eq_true hxy];rfl
        rw[hd]
        clear hd hxy HX HY c0 c1 c2 d0 d1 d2
        go_wp2_with fail
        go_roundg (n-(k+(m+1)))
        case measure=>omega
        case rel=>exact⟨i,m+1,cs,rfl,by go_num,by omega,by omega,Jn,by omega,HI3,HL.o.drew,HT.o.drew⟩
       ·have HI3:Hid (CompInv es (k+m+1) (i+1) (cs.set i ⟨xk,xi,xt⟩)):=by
         have:=HI2.o.keep HS.o hkm2 (by rw[HX.o,HY.o];exact hxy)
         rw[HX.o] at this
         exact this
        have hd:(!decide ((⟨xk,xi,xt⟩:Val)=⟨yk,yi,yt⟩))=true:=by rw[decide_eq_false hxy];rfl
        rw[hd]
        obtain⟨e0,e1,e2⟩:=HL.o.at3 (k:=i) (by omega)
        have f0:=Blk.frozen HL.o (i*3)
        have f1:=Blk.frozen HL.o (i*3+1)
        have f2:=Blk.frozen HL.o (i*3+2)
        have HL2:Hid _:=HL.o.drew.set i (by rw[hcl.o];omega) ⟨xk,xi,xt⟩
        have HT2:Hid _:=HT.o.drew.trans (touch_set3 wr.drew g (i*3) (i*3+1) (i*3+2) (.int .i64 xk) (.int .i64 xi) (.string ⟨xt.toArray⟩))
        have v1:(i:Int)<(n:Int):=by omega
        clear hd hxy HX HY d0 d1 d2 HL HT HI2
        go_wp2_with fail
        go_roundg (n-(k+(m+1)))
        case measure=>omega
        case rel=>exact⟨i+1,m+1,_,by go_num,by go_num,by omega,by omega,Jn,by omega,HI3,HL2,HT2⟩
      ·have hend:Hid (k+m=n):=by show _=_;omega
       have v5:¬(m:Int)<((n-k:Nat):Int):=by omega
       have hin:i<n:=by omega
       obtain⟨w3,sp',hcr,hl3,ht3,hs3⟩:=HL.o.clear i n hcl.o hin (cap-i)
       have HL3:=Jh hl3
       have HT3:=Jh (HT.o.trans ht3)
       have HS3:=Jh hs3
       have hcut:∀W,(Instr.slice 95 (.slice (some ⟨g,0,none⟩) n cap) (some (.int .i64 (i:Int))) none none).run Tryz.prog W=.ok (.slice (some ⟨g,i*3,none⟩) (n-i) (cap-i)) W:=fun W=>by
        have h1:(0:Int)<=(i:Int):=by omega
        have h2:(i:Int)<=(n:Int):=by omega
        have h3:¬cap=i:=by omega
        go_simp
       have hhd:=run_headW (some ⟨g,0,none⟩) n cap i (by omega) hc
       clear hl3 ht3 hs3 HL HT
       go_wp2_with fail
       go_ret
       refine ⟨cs.take i,i,sp',rfl,by simp[hcl.o];omega,by omega,HI2.o.strict,fun v=>?_,HL3.o,HS3.o,HT3.o⟩
       rw[HI2.o.mem,hend.o,List.take_of_length_le (by rw[HN.o];exact Jn)]
    ·have HP2:Hid (StrictV (es.take (k+1))):=by
      show StrictV _
      rw[take_snoc hk']
      exact strict_snoc HP.o fun v hv=>lt_new HS.o hk' (by rw[HX.o,HY.o];exact hxy) v hv
     have hd:decide ((⟨xk,xi,xt⟩:Val)=⟨yk,yi,yt⟩)=false:=decide_eq_false hxy
     rw[hd]
     clear hd hxy HX HY HP
     go_wp2_with fail
     go_roundg (n-(k+1))
     case measure=>omega
     case rel=>exact⟨k+1,by omega,by omega,Jn,by go_num,HL.o.drew,HT.o.drew,HP2⟩
   ·have hkn:Hid (k=n):=by show k=n;omega
    go_wp2_with fail
    go_ret
    exact⟨es,n,sp,rfl,HN.o,Jn,(by have:=HP.o;rwa [hkn.o,List.take_of_length_le (by rw[HN.o];exact Jn)] at this),fun _=>Iff.rfl,HL.o,rfl,HT.o⟩
def PredK (K:World->Prop) (gf:Nat) (lb:Array Value) (p:Val->Bool):Prop:=
 ∀(W:World) (x:Val),K W->Calls Tryz.prog gf (#[.agg (vC x.k x.i x.t.toArray)]++lb) W fun e w'=>e=.returned (.bool (p x))/\Grown W w'
def First (p:Val->Bool) (es:List Val) (r:Int):Prop:=(r = -1/\∀v∈es,p v=false)∨∃k:Nat,∃h:k<es.length,r=(k:Int)/\p es[k]=true/\∀v∈es.take k,p v=false
theorem indexFuncV_at (K:World->Prop) (gf:Nat) (lb:Array Value) (p:Val->Bool) (hp:PredK K gf lb p) (hK:∀W W',K W->Grown W W'->K W') (eg:∀args w,(callFunc gf args).run Tryz.prog w=.ok (.enter gf args) w)
  (A:OA) (es:List Val) (n cap:Nat) (hn:es.length=n) (hm:n<=100000) (w:World) (hr:RdW w A es) (hk:K w):
  Calls Tryz.prog 199 #[.slice A n cap,.func (.func gf) #[] lb] w fun e w'=>∃r,e=.returned (.int .i64 r)/\First p es r/\Grown w w':=by
 have HN:=Jh hn
 have HP:=Jh hp
 have HK:=Jh hK
 have HK0:=Jh hk
 clear hn hp hK hk
 go_enter Tryz.func199,Tryz.ntmps199
 go_wp2_with fail
 go_loopg [8] n (fun gg s8 wr=>∃k:Nat,k<=n/\n-k<=gg/\s8=.int .i64 (k:Int)/\Hid (Grown w wr)/\Hid (∀v∈es.take k,p v=false))
 case atStart=>exact⟨0,Nat.zero_le _,by omega,rfl,Grown.refl w,by show ∀_,_;simp⟩
 case round=>
  obtain⟨k,hk,hgg,rfl,HG,HA⟩:=hrel
  by_cases hlt:k<n
  ·have hk':k<es.length:=by rw[HN.o];exact hlt
   obtain⟨g,off,rfl,hg,c0,c1,c2⟩:=RdW.at3 (hr.below HG.o.below) hk'
   have hcall:=HP.o wr es[k] (HK.o w wr HK0.o HG.o)
   obtain⟨x,hx⟩:∃x,es[k]=x:=⟨_,rfl⟩
   have HX:=Jh hx
   rw[hx] at c0 c1 c2 hcall
   clear hx hr
   obtain⟨xk,xi,xt⟩:=x
   have w5:(k:Int)<(n:Int):=by omega
   cases hq:p ⟨xk,xi,xt⟩ with
   | true=>
    rw[hq] at hcall
    have HQ:=Jh hq
    clear hq
    go_wp2_with (go_at_fn gf;refine hcall.mono ?_;rintro e w' ⟨rfl,hgr⟩)
    go_ret
    exact⟨_,rfl,.inr ⟨k,hk',rfl,by rw[HX.o];exact HQ.o,HA.o⟩,HG.o.trans hgr⟩
   | false=>
    rw[hq] at hcall
    have HQ:Hid (∀v∈es.take (k+1),p v=false):=by
     show ∀v∈es.take (k+1),p v=false
     rw[take_snoc hk',HX.o]
     intro v hv
     rcases List.mem_append.1 hv with hv|hv
     ·exact HA.o v hv
     ·simp at hv;subst hv;exact hq
    clear hq
    go_wp2_with (go_at_fn gf;refine hcall.mono ?_;rintro e w' ⟨rfl,hgr⟩)
    go_roundg (n-(k+1))
    case measure=>omega
    case rel=>exact⟨k+1,by omega,Jn,by go_num,HG.o.trans hgr,HQ⟩
  ·have hkn:Hid (k=n):=by show k=n;omega
   go_wp2_with fail
   go_ret
   exact⟨_,rfl,.inl ⟨rfl,by have:=HA.o;rwa [hkn.o,List.take_of_length_le (by rw[HN.o];exact Jn)] at this⟩,HG.o⟩
structure DelInv (q:Val->Bool) (es:List Val) (p i:Nat) (cs:List Val):Prop where
 len:cs.length=es.length
 lt:i<p
 le:p<=es.length
 high:∀j,p<=j->cs[j]?=es[j]?
 kept:cs.take i=(es.take p).filter fun v=>!q v
theorem filter_none {q:Val->Bool} {l:List Val} (h:∀v∈l,q v=false):(l.filter fun v=>!q v)=l:=List.filter_eq_self.2 fun v hv=>by rw[h v hv];rfl
theorem DelInv.start {q:Val->Bool} {es:List Val} {k:Nat} (hk:k<es.length) (h1:q es[k]=true) (h2:∀v∈es.take k,q v=false):DelInv q es (k+1) k es:=
 ⟨rfl,by omega,by omega,fun _ _=>rfl,by rw[take_snoc hk,List.filter_append,filter_none h2];simp[h1]⟩
theorem DelInv.skip {q:Val->Bool} {es cs:List Val} {p i:Nat} (h:DelInv q es p i cs) (hlt:p<es.length) (e:q es[p]=true):DelInv q es (p+1) i cs:=
 ⟨h.len,by have:=h.lt;omega,by omega,fun j hj=>h.high j (by omega),by rw[take_snoc hlt,List.filter_append,<-h.kept];simp[e]⟩
theorem DelInv.keep {q:Val->Bool} {es cs:List Val} {p i:Nat} (h:DelInv q es p i cs) (hlt:p<es.length) (e:q es[p]=false):DelInv q es (p+1) (i+1) (cs.set i es[p]):=by
 have hi:i<cs.length:=by have:=h.lt;have:=h.len;omega
 have ht:(cs.set i es[p]).take (i+1)=cs.take i++[es[p]]:=by
  rw[List.take_succ_eq_append_getElem (by simpa using hi),List.take_set,List.set_eq_of_length_le (by simp;omega)]
  simp
 refine ⟨by simp[h.len],by have:=h.lt;omega,by omega,fun j hj=>?_,?_⟩
 ·rw[List.getElem?_set_ne (by have:=h.lt;omega)]
  exact h.high j (by omega)
 ·rw[ht,take_snoc hlt,List.filter_append,<-h.kept];simp[e]
def Deletes (q:Val->Bool) (w:World) (g:Nat) (es:List Val) (n cap:Nat) (sp:List Value) (e:Ending) (w':World):Prop:=
 ∃m sp',e=.returned (.slice (some ⟨g,0,none⟩) m cap)/\(es.filter fun v=>!q v).length=m/\m<=n/\Lies w' g (es.filter fun v=>!q v) sp'/\m*3+sp'.length=n*3+sp.length/\Touch g w w'
theorem Touch.grown {g:Nat} {a b c:World} (h:Touch g a b) (k:Grown b c):Touch g a c:=h.trans (Touch.of_below k.below)
theorem Lies.grown {w w':World} {g:Nat} {es:List Val} {sp:List Value} (h:Lies w g es sp) (k:Grown w w'):Lies w' g es sp:=Blk.below h k.below h.lt
theorem deleteFuncV_at (K:World->Prop) (gf:Nat) (lb:Array Value) (q:Val->Bool) (hp:PredK K gf lb q) (eg:∀args w,(callFunc gf args).run Tryz.prog w=.ok (.enter gf args) w)
  (g:Nat) (es:List Val) (n cap:Nat) (sp:List Value) (hn:es.length=n) (hm:n<=100000) (hc:n<=cap) (w:World) (hB:Lies w g es sp) (hk:K w) (hK:∀W W',K W->Touch g W W'->K W'):
  Calls Tryz.prog 169 #[.slice (some ⟨g,0,none⟩) n cap,.func (.func gf) #[] lb] w (Deletes q w g es n cap sp):=by
 have HN:=Jh hn
 have HP:=Jh hp
 have HK:=Jh hK
 have HK0:=Jh hk
 have HB0:=Jh hB
 clear hn
 have hix:=indexFuncV_at K gf lb q hp (fun W W' h hg=>hK W W' h (Touch.of_below hg.below)) eg (some ⟨g,0,none⟩) es n cap HN.o hm w hB.rd hk
 clear hp hK hk hB
 go_enter Tryz.func169,Tryz.ntmps169
 go_wp2_with fail
 refine hix.mono ?_
 rintro e w1 ⟨r,rfl,hF,hg1⟩
 clear hix
 have HL1:=Jh (HB0.o.grown hg1)
 have HT1:=Jh (Touch.of_below (g:=g) hg1.below)
 clear hg1 HB0
 rcases hF with ⟨rfl,hall⟩|⟨k,hk',rfl,hqk,hall⟩
 ·have HF:Hid (es.filter (fun v=>!q v)=es):=filter_none hall
  clear hall
  go_wp2_with fail
  go_ret
  exact⟨n,sp,rfl,by rw[HF.o];exact HN.o,Jn,by rw[HF.o];exact HL1.o,rfl,HT1.o⟩
 ·have HI:Hid (DelInv q es (k+1) k es):=DelInv.start hk' hqk hall
  have hkn:k<n:=by rw[<-HN.o];exact hk'
  have v1:((k:Int) == -1)=false:=beq_eq_false_iff_ne.2 (by omega)
  clear hqk hall
  go_wp2_with fail
  clear v1
  go_loopg [5,6,7] n (fun gg s5 s6 _ wr=>∃(i j:Nat) (cs:List Val),s5=.int .i64 (i:Int)/\s6=.int .i64 (j:Int)/\j<=n/\n-j<=gg/\i<j/\Hid (DelInv q es j i cs)/\Hid (Lies wr g cs sp)/\Hid (Touch g w wr))
  case atStart=>exact⟨k,k+1,es,rfl,by go_num,by omega,by omega,by omega,HI,HL1,HT1⟩
  case round=>
   obtain⟨i,j,cs,rfl,rfl,hjn,hgg,hij,HI2,HL,HT⟩:=hrel
   clear HI HL1 HT1
   have hcl:Hid (cs.length=n):=HI2.o.len.trans HN.o
   by_cases hlt:j<n
   ·have hj':j<cs.length:=by rw[hcl.o];exact hlt
    have hj2:j<es.length:=by rw[HN.o];exact hlt
    obtain⟨c0,c1,c2⟩:=HL.o.at3 hj'
    obtain⟨x,hx⟩:∃x,es[j]=x:=⟨_,rfl⟩
    have HX:=Jh hx
    have gx:cs[j]=x:=by
     have:=HI2.o.high j (by omega)
     rw[List.getElem?_eq_getElem hj',List.getElem?_eq_getElem hj2,hx] at this
     exact Option.some.inj this
    rw[gx] at c0 c1 c2
    clear hx gx
    obtain⟨xk,xi,xt⟩:=x
    have hlw:g<wr.heap.size:=Blk.lt HL.o
    have hcall:=HP.o (wr.alloc (.cells (vC xk xi xt.toArray) 52)) ⟨xk,xi,xt⟩ (HK.o w _ HK0.o (HT.o.grown ((Grown.refl _).alloc _)))
    have hbx:=Blk.new wr 52 (vC xk xi xt.toArray)
    have HG1:=Jh ((Grown.refl wr).alloc (.cells (vC xk xi xt.toArray) 52))
    have w5:(j:Int)<(n:Int):=by omega
    cases hq:q ⟨xk,xi,xt⟩ with
    | true=>
     rw[hq] at hcall
     have HI3:Hid (DelInv q es (j+1) i cs):=HI2.o.skip hj2 (by rw[HX.o];exact hq)
     clear hq HX
     go_wp2_with (go_at_fn gf;refine hcall.mono ?_;rintro e w' ⟨rfl,hgr⟩)
     go_roundg (n-(j+1))
     case measure=>omega
     case rel=>exact⟨i,j+1,cs,rfl,by go_num,by omega,Jn,by omega,HI3,HL.o.grown (HG1.o.trans hgr),HT.o.grown (HG1.o.trans hgr)⟩
    | false=>
     rw[hq] at hcall
     have HI3:Hid (DelInv q es (j+1) (i+1) (cs.set i ⟨xk,xi,xt⟩)):=by
      have:=HI2.o.keep hj2 (by rw[HX.o];exact hq)
      rw[HX.o] at this
      exact this
     clear hq HX
     have v1:(i:Int)<(n:Int):=by omega
     go_wp2_with (go_at_fn gf;refine hcall.mono ?_;rintro e w2 ⟨rfl,hgr⟩;have hG2:=HG1.o.trans hgr;have hl2:=HL.o.grown hG2;have hb2:=Blk.below hbx hgr.below hbx.lt;obtain⟨b0,b1,b2,_⟩:=blk3 hb2;have h3:=hl2.at3 (k:=i) (by rw[hcl.o];omega);obtain⟨e0,e1,e2⟩:=h3;have f0:=Blk.frozen hl2 (i*3);have f1:=Blk.frozen hl2 (i*3+1);have f2:=Blk.frozen hl2 (i*3+2);have HL2:=Jh (hl2.set i (by rw[hcl.o];omega) ⟨xk,xi,xt⟩);have HT2:=Jh ((HT.o.grown hG2).trans (touch_set3 w2 g (i*3) (i*3+1) (i*3+2) (.int .i64 xk) (.int .i64 xi) (.string ⟨xt.toArray⟩)));clear hG2 hl2 hb2 hgr hcall hbx c0 c1 c2)
     go_roundg (n-(j+1))
     case measure=>omega
     case rel=>exact⟨i+1,j+1,_,by go_num,by go_num,by omega,Jn,by omega,HI3,HL2,HT2⟩
   ·have hend:Hid (j=n):=by show _=_;omega
    have v5:¬(j:Int)<(n:Int):=by omega
    have hin:i<n:=by omega
    obtain⟨w3,sp',hcr,hl3,ht3,hs3⟩:=HL.o.clear i n hcl.o hin (cap-i)
    have HL3:=Jh hl3
    have HT3:=Jh (HT.o.trans ht3)
    have HS3:=Jh hs3
    have hcut:∀W,(Instr.slice 95 (.slice (some ⟨g,0,none⟩) n cap) (some (.int .i64 (i:Int))) none none).run Tryz.prog W=.ok (.slice (some ⟨g,i*3,none⟩) (n-i) (cap-i)) W:=fun W=>by
     have h1:(0:Int)<=(i:Int):=by omega
     have h2:(i:Int)<=(n:Int):=by omega
     have h3:¬cap=i:=by omega
     go_simp
    have hhd:=run_headW (some ⟨g,0,none⟩) n cap i (by omega) hc
    clear hl3 ht3 hs3 HL HT
    go_wp2_with fail
    go_ret
    have hk2:=HI2.o.kept
    rw[hend.o,List.take_of_length_le (l:=es) (by rw[HN.o];exact Jn)] at hk2
    exact⟨i,sp',rfl,by rw[<-hk2];simp[hcl.o];omega,by omega,by rw[<-hk2];exact HL3.o,HS3.o,HT3.o⟩
end
section
open Go.RowKit Spans Op
theorem OwnK.set_ {α:Type} {L:Lay α} {w:World} {base:Nat} {v:Value} {es:List α} (h:OwnK L w base v es) {b:Nat} (hb:b<base) (i:Nat) (u:Value):OwnK L (w.setCell ⟨b,i,none⟩ u) base v es:=by
 refine ⟨h.1,?_⟩
 rcases h.2 with h2|⟨g,cap,cur,hv,hbg,hg,r⟩
 ·exact .inl h2
 ·exact .inr ⟨g,cap,cur,hv,hbg,Blk.far hg (by show g≠b;omega) u,r⟩
theorem OwnK.form {α:Type} {L:Lay α} {w:World} {base:Nat} {v:Value} {es:List α} (h:OwnK L w base v es) {n:Nat} (hn:es.length=n):∃A c,v=.slice A n c/\n<=c/\RdK L w A es:=by
 subst hn;exact h.rd
theorem below_set {B b i:Nat} {w w':World} {u:Value} (h:Below B w w') (hb:B<=b):Below B w (w'.setCell ⟨b,i,none⟩ u):=
 ⟨h.os,h.tape,h.output,by simpa using h.size,fun k hk=>(heap_setCell_other w' ⟨b,i,none⟩ k u (by show k≠b;omega)).trans (h.block k hk)⟩
theorem OwnK.put7 {α:Type} {L:Lay α} {w:World} {base:Nat} {v:Value} {es:List α} (h:OwnK L w base v es) {b:Nat} (hb:b<base) (u0 u1 u2 u3 u4 u5 u6:Value):
  OwnK L (((((((w.setCell ⟨b,0,none⟩ u0).setCell ⟨b,1,none⟩ u1).setCell ⟨b,2,none⟩ u2).setCell ⟨b,3,none⟩ u3).setCell ⟨b,4,none⟩ u4).setCell ⟨b,5,none⟩ u5).setCell ⟨b,6,none⟩ u6) base v es:=
 ((((((h.set_ hb 0 u0).set_ hb 1 u1).set_ hb 2 u2).set_ hb 3 u3).set_ hb 4 u4).set_ hb 5 u5).set_ hb 6 u6
theorem below_put7 {B b:Nat} {w0 w:World} (h:Below B w0 w) (hb:B<=b) (u0 u1 u2 u3 u4 u5 u6:Value):
  Below B w0 (((((((w.setCell ⟨b,0,none⟩ u0).setCell ⟨b,1,none⟩ u1).setCell ⟨b,2,none⟩ u2).setCell ⟨b,3,none⟩ u3).setCell ⟨b,4,none⟩ u4).setCell ⟨b,5,none⟩ u5).setCell ⟨b,6,none⟩ u6):=
 below_set (below_set (below_set (below_set (below_set (below_set (below_set h hb) hb) hb) hb) hb) hb) hb
def Gives (w:World) (a:Sp) (e:Ending) (w':World):Prop:=∃A n c,e=.returned (spF a.kind a.lo a.hi a.frm a.to_ a.opn A n c)/\a.no.length=n/\n<=c/\OwnW w' w.heap.size (.slice A n c) a.no/\Below w.heap.size w w'
theorem Gives.rd {w':World} {A:OA} {n c:Nat} {b:Nat} {es:List Val} (h:OwnW w' b (.slice A n c) es):RdW w' A es:=by
 obtain⟨A',c',e,_,hr⟩:=OwnK.rd h
 injection e with e1 e2 e3
 subst e1
 exact hr
theorem copied_at (K lo hi:Int) (f t:LU) (o:Bool) (A:OA) (n c:Nat) (w:World) (es:List Val) (hn:es.length=n) (hm:n<=100000) (hr:RdW w A es):
  Calls Tryz.prog 104 #[spF K lo hi f t o A n c] w (Gives w ⟨K,lo,hi,f,t,o,es⟩):=by
 have HN:=Jh hn
 have hgr:=gr2 w (.cells (sC K lo hi f.toArray t.toArray o A n c) 97) (.cells zC 97)
 have hr2:=hr.below hgr.below
 have hbx:=(Blk.new w 97 (sC K lo hi f.toArray t.toArray o A n c)).alloc (.cells zC 97)
 have hrs:=Blk.new (w.alloc (.cells (sC K lo hi f.toArray t.toArray o A n c) 97)) 97 zC
 have hsz:((w.alloc (.cells (sC K lo hi f.toArray t.toArray o A n c) 97)).alloc (.cells zC 97)).heap.size=w.heap.size+2:=by simp
 rw[show (w.alloc (.cells (sC K lo hi f.toArray t.toArray o A n c) 97)).heap.size=w.heap.size+1 by simp] at hrs
 clear hn hr
 go_enter Tryz.func104,Tryz.ntmps104
 go_wp2_with (at_builtin;refine wpList_append_k layV (by rfl) (.const (.slice none 0 0)) (.tmp 4) 95 underV rfl (w.heap.size+2) _ [] (by rfl) (OwnK.none_ _ _) A es n c (by rfl) hr2 HN.o (by rw[maxLen_num];simp;omega) (by show (0+n)*32<=_;omega) (by simp) ?_;intro v1 w3 o1 b1 _ _;rw[List.nil_append] at o1;have hb3:=b1 _ (Below.refl _ _);obtain⟨B,cc,rfl,hcc,hrB⟩:=o1.form HN.o;have hX:=Blk.below hbx hb3 (by omega);have hY:=Blk.below hrs hb3 (by omega);obtain⟨x0,x1,x2,x3,x4,x5,x6,k0,k1,k2,k3,k4,k5,k6⟩:=blk7 hX;obtain⟨y0,y1,y2,y3,y4,y5,y6,l0,l1,l2,l3,l4,l5,l6⟩:=blk7 hY;have hs3:w.heap.size+2<=w3.heap.size:=hsz ▸ hb3.size;clear b1 hbx hrs hr2)
 refine bodyPost_ret (v:=spF K lo hi f t o B n cc) (by simp[results,Tryz.results104,go_sem,y0,y1,y2,y3,y4,y5,y6]) rfl ?_
 refine ⟨B,n,cc,rfl,HN.o,hcc,?_,?_⟩
 ·exact ((OwnK.set_ o1 (by omega) 6 _).put7 (by omega) _ _ _ _ _ _ _).less (by omega)
 ·exact below_put7 (below_set (hgr.below.trans (hb3.mono (by omega))) (Jn)) (by omega) _ _ _ _ _ _ _
theorem grow_pos (n:Nat) (hn:0<n) (hm:n<=100000) (w:World):Calls Tryz.prog 139 #[.slice none 0 0,.int .i64 (n:Int)] w fun e w'=>∃v,e=.returned v/\OwnW w' w.heap.size v []/\Below w.heap.size w w':=by
 have hf:=growslice_fits (need:=n) (old:=0) (bytes:=32) hn (by omega)
 have hby:Tryz.t52.bytes=32:=rfl
 go_enter Tryz.func139,Tryz.ntmps139
 go_wp2_with fail
 all_goals try (exfalso;omega)
 go_ret
 have hge:=grownCap_ge w n 0 52
 have hcm:grownCap w n 0 52<=maxLen:=grownCap_le_maxLen w n 0 _ (by rw[maxLen_num];omega)
 refine ⟨_,rfl,⟨rfl,.inr ⟨w.heap.size,grownCap w n 0 52,_,rfl,Jn,heap_alloc_new w _,Nat.zero_le _,hcm,?_,rfl⟩⟩,?_⟩
 ·simp only[Array.size_append,size_zeroCells]
  show n*3+(grownCap w n 0 52-n)*3=grownCap w n 0 52*3
  omega
 ·exact (gr1 w _).drew.below
theorem grow_at (n:Nat) (hm:n<=100000) (w:World):Calls Tryz.prog 139 #[.slice none 0 0,.int .i64 (n:Int)] w fun e w'=>∃v,e=.returned v/\OwnW w' w.heap.size v []/\Below w.heap.size w w':=by
 by_cases hn:0<n
 ·exact grow_pos n hn hm w
 ·have e:n=0:=by omega
  subst e
  go_enter Tryz.func139,Tryz.ntmps139
  go_wp2_with fail
  go_ret
  exact⟨_,rfl,OwnK.none_ _ _,Below.refl _ _⟩
theorem concatV_at (g0:Nat) (A:OA) (n c:Nat) (A':OA) (n' c':Nat) (w:World) (es fs:List Val) (hn:es.length=n) (hm:n<=10000) (hn':fs.length=n') (hm':n'<=10000) (hr:RdW w A es) (hr':RdW w A' fs) (hg:g0<w.heap.size)
  (h0:w.cell? ⟨g0,0,none⟩=some (.slice A n c)) (h1:w.cell? ⟨g0,1,none⟩=some (.slice A' n' c')):
  Calls Tryz.prog 105 #[.slice (some ⟨g0,0,none⟩) 2 2] w fun e w'=>∃v,e=.returned v/\OwnW w' w.heap.size v (es++fs)/\Below w.heap.size w w':=by
 have HN:=Jh hn
 have HN':=Jh hn'
 have HR:=Jh hr
 have HR':=Jh hr'
 clear hn hn' hr hr'
 go_enter Tryz.func105,Tryz.ntmps105
 go_wp2_with fail
 go_loopg [3,11] 2 (fun gg s3 s11 wr=>w=wr/\((s11=.int .i64 0/\s3=.int .i64 0/\2<=gg)∨(s11=.int .i64 1/\s3=.int .i64 (n:Int)/\1<=gg)∨(s11=.int .i64 2/\s3=.int .i64 ((n+n':Nat):Int))))
 case atStart=>exact⟨rfl,.inl ⟨rfl,rfl,Jn⟩⟩
 case round=>
  obtain⟨rfl,⟨rfl,rfl,hgg⟩|⟨rfl,rfl,hgg⟩|⟨rfl,rfl⟩⟩:=hrel
  ·go_wp2_with fail
   go_roundg 1
   case measure=>omega
   case rel=>exact⟨rfl,.inr (.inl ⟨rfl,rfl,Jn⟩)⟩
  ·go_wp2_with fail
   go_roundg 0
   case measure=>omega
   case rel=>exact⟨rfl,.inr (.inr ⟨rfl,by go_num⟩)⟩
  ·go_wp2_with fail
   refine (grow_at (n+n') (by omega) _).mono ?_
   rintro e w1 ⟨v,rfl,ho,hb⟩
   have HO:=Jh ho
   have HB:=Jh hb
   have HH0:=Jh h0
   have HH1:=Jh h1
   clear h0 h1 ho hb
   go_wp2_with fail
   go_loopg [6,27] 2 (fun gg s6 s27 wr=>Hid (Below w.heap.size w wr)/\((s27=.int .i64 0/\Hid (OwnW wr w.heap.size s6 [])/\2<=gg)∨(s27=.int .i64 1/\Hid (OwnW wr w.heap.size s6 es)/\1<=gg)∨(s27=.int .i64 2/\Hid (OwnW wr w.heap.size s6 (es++fs)))))
   case atStart=>exact⟨HB,.inl ⟨rfl,HO,Jn⟩⟩
   case round=>
    obtain⟨HB2,⟨rfl,HO2,hgg⟩|⟨rfl,HO2,hgg⟩|⟨rfl,HO2⟩⟩:=hrel
    ·have d0:=(HB2.o.cell (p:=⟨g0,0,none⟩) hg).trans HH0.o
     have hlb:w.heap.size<=wr.heap.size:=HB2.o.size
     have hr2:=HR.o.below HB2.o
     clear HO HB
     go_wp2_with (at_builtin;refine wpList_append_k layV (by rfl) (.tmp 31) (.tmp 32) 95 underV rfl w.heap.size _ [] (by rfl) HO2.o A es n c (by rfl) hr2 HN.o (by rw[maxLen_num];simp;omega) (by show (0+n)*32<=_;omega) hlb ?_;intro v1 w3 o1 b1 _ _;rw[List.nil_append] at o1;have HO3:=Jh o1;have HB3:=Jh (b1 _ HB2.o);clear b1 o1 d0)
     go_roundg 1
     case measure=>omega
     case rel=>exact⟨HB3,.inr (.inl ⟨rfl,HO3,Jn⟩)⟩
    ·have d0:=(HB2.o.cell (p:=⟨g0,1,none⟩) hg).trans HH1.o
     have hlb:w.heap.size<=wr.heap.size:=HB2.o.size
     have hr2:=HR'.o.below HB2.o
     clear HO HB
     go_wp2_with (at_builtin;refine wpList_append_k layV (by rfl) (.tmp 31) (.tmp 32) 95 underV rfl w.heap.size _ es (by rfl) HO2.o A' fs n' c' (by rfl) hr2 HN'.o (by rw[maxLen_num,HN.o];omega) (by show (es.length+n')*32<=_;rw[HN.o];omega) hlb ?_;intro v1 w3 o1 b1 _ _;have HO3:=Jh o1;have HB3:=Jh (b1 _ HB2.o);clear b1 o1 d0)
     go_roundg 0
     case measure=>omega
     case rel=>exact⟨HB3,.inr (.inr ⟨rfl,HO3⟩)⟩
    ·go_wp2_with fail
     go_ret
     exact⟨_,rfl,HO2.o,HB2.o⟩
end
section
open Go.RowKit Go.Sort Spans Op
def Tch (A:OA) (w w':World):Prop:=w.grownBy w' (A.map (·.block))
theorem Tch.refl (A:OA) (w:World):Tch A w w:=World.grownBy.refl w _
theorem Tch.trans {A:OA} {a b c:World} (h:Tch A a b) (k:Tch A b c):Tch A a c:=World.grownBy.trans h k
theorem Tch.of_below {A:OA} {w w':World} (h:Below w.heap.size w w'):Tch A w w':=⟨h.os,h.tape,h.output,h.size,fun k hk _=>h.block k hk⟩
theorem Tch.size {A:OA} {w w':World} (h:Tch A w w'):w.heap.size<=w'.heap.size:=World.grownBy.size h
theorem Tch.blk {A:OA} {w w':World} {g:Nat} {t:TypeId} {cs:Array Value} (h:Tch A w w') (hB:Blk w g t cs) (hne:∀a,A=some a->a.block<g):Blk w' g t cs:=
 (World.grownBy.block h g hB.lt (by
  cases A with
  | none=>simp
  | some a=>have:=hne a rfl;simp;omega)).trans hB
theorem Tch.below {A:OA} {B:Nat} {w0 w w':World} (h:Tch A w w') (hb:Below B w0 w) (hB:B<=w.heap.size) (hA:∀a,A=some a->B<=a.block):Below B w0 w':=
 hb.grown h hB (by
  intro k hk
  cases A with
  | none=>simp at hk
  | some a=>simp at hk;subst hk;exact hA a rfl)
theorem own_addr {w:World} {base:Nat} {A:OA} {n c:Nat} {l:List Val} (h:OwnW w base (.slice A n c) l):∀a,A=some a->base<=a.block/\a.block<w.heap.size:=by
 intro a ha
 subst ha
 rcases lies_of_own h with ⟨e,_⟩|⟨g,cap,sp,e,hb,_,_,hl,_⟩
 ·cases e
 ·injection e with e1 e2 e3
  injection e1 with e1
  subst e1
  exact⟨hb,Blk.lt hl⟩
section
variable {w:World} {base:Nat} {A:OA} {n c:Nat} {l:List Val}
theorem compact_none (w:World):Calls Tryz.prog 142 #[.slice none 0 0] w fun e w'=>e=.returned (.slice none 0 0)/\w'=w:=by
 go_enter Tryz.func142,Tryz.ntmps142
 go_wp2_with fail
 go_ret
 exact⟨rfl,rfl⟩
theorem sortV_own (hn:l.length=n) (hm:n<=100000) (ho:OwnW w base (.slice A n c) l):
  Calls Tryz.prog 140 #[.slice A n c,.func (.func 141) #[] #[]] w fun e w'=>
   e=.returned (.tuple #[])/\∃out,out.Perm l/\SortedV out/\OwnW w' base (.slice A n c) out/\Tch A w w':=by
 rcases lies_of_own ho with ⟨e,hl⟩|⟨g,cap,sp,e,hb,hc,hcm,hl,hs⟩
 ·injection e with e1 e2 e3
  subst e1;subst e2;subst e3;subst hl
  refine (sortV_none 0 none w).mono ?_
  rintro e w' ⟨rfl,rfl⟩
  exact⟨rfl,[],List.Perm.refl _,List.Pairwise.nil,OwnK.none_ _ _,Tch.refl _ _⟩
 ·injection e with e1 e2 e3
  subst e1;subst e3
  refine (sortV_at g l n c sp hn hm w hl).mono ?_
  rintro e w' ⟨rfl,out,hp,hS,hL,hT⟩
  have hlen:out.length=l.length:=hp.length_eq
  refine ⟨rfl,out,hp,hS,?_,hT⟩
  have:=own_of_lies hL hb (by omega) hcm (by omega)
  rwa [hlen,hn] at this
theorem compactV_own (hn:l.length=n) (hm:n<=100000) (hS:SortedV l) (ho:OwnW w base (.slice A n c) l):
  Calls Tryz.prog 142 #[.slice A n c] w fun e w'=>
   ∃out n',e=.returned (.slice A n' c)/\out.length=n'/\n'<=n/\RiseV out/\(∀v,v∈out↔v∈l)/\OwnW w' base (.slice A n' c) out/\Tch A w w':=by
 rcases lies_of_own ho with ⟨e,hl⟩|⟨g,cap,sp,e,hb,hc,hcm,hl,hs⟩
 ·injection e with e1 e2 e3
  subst e1;subst e2;subst e3;subst hl
  refine (compact_none w).mono ?_
  rintro e w' ⟨rfl,rfl⟩
  exact⟨[],0,rfl,rfl,Jn,List.Pairwise.nil,fun _=>Iff.rfl,OwnK.none_ _ _,Tch.refl _ _⟩
 ·injection e with e1 e2 e3
  subst e1;subst e3
  refine (compactV_at g l n c sp hn hm (by omega) hcm hS w hl).mono ?_
  rintro e w' ⟨out,m,sp',rfl,hlen,hmn,hst,hmem,hL,hsz,hT⟩
  refine ⟨out,m,rfl,hlen,hmn,hst,hmem,?_,hT⟩
  have:=own_of_lies hL hb (by omega) hcm (by omega)
  rwa [hlen] at this
theorem delete_none (K:World->Prop) (gf:Nat) (lb:Array Value) (q:Val->Bool) (hp:PredK K gf lb q) (eg:∀args w,(callFunc gf args).run Tryz.prog w=.ok (.enter gf args) w) (w:World) (hk:K w) (hK:∀W W',K W->Grown W W'->K W'):
  Calls Tryz.prog 169 #[.slice none 0 0,.func (.func gf) #[] lb] w fun e w'=>e=.returned (.slice none 0 0)/\Below w.heap.size w w':=by
 have hix:=indexFuncV_at K gf lb q hp hK eg none [] 0 0 rfl (by omega) w (.inl rfl) hk
 clear hp hK hk
 go_enter Tryz.func169,Tryz.ntmps169
 go_wp2_with fail
 refine hix.mono ?_
 rintro e w1 ⟨r,rfl,hF,hg1⟩
 clear hix
 have hr:r = -1:=by
  rcases hF with ⟨h,_⟩|⟨k,hk,_⟩
  ·exact h
  ·simp at hk
 subst hr
 clear hF
 go_wp2_with fail
 go_ret
 exact⟨rfl,hg1.below⟩
theorem deleteV_own (K:World->Prop) (gf:Nat) (lb:Array Value) (q:Val->Bool) (hp:PredK K gf lb q) (eg:∀args w,(callFunc gf args).run Tryz.prog w=.ok (.enter gf args) w) (hn:l.length=n) (hm:n<=100000) (ho:OwnW w base (.slice A n c) l) (hk:K w) (hK:∀W W',K W->Tch A W W'->K W'):
  Calls Tryz.prog 169 #[.slice A n c,.func (.func gf) #[] lb] w fun e w'=>
   ∃n',e=.returned (.slice A n' c)/\(l.filter fun v=>!q v).length=n'/\n'<=n/\OwnW w' base (.slice A n' c) (l.filter fun v=>!q v)/\Tch A w w':=by
 rcases lies_of_own ho with ⟨e,hl⟩|⟨g,cap,sp,e,hb,hc,hcm,hl,hs⟩
 ·injection e with e1 e2 e3
  subst e1;subst e2;subst e3;subst hl
  refine (delete_none K gf lb q hp eg w hk (fun W W' h hg=>hK W W' h (Tch.of_below hg.below))).mono ?_
  rintro e w' ⟨rfl,hb⟩
  exact⟨0,rfl,rfl,Jn,OwnK.none_ _ _,Tch.of_below hb⟩
 ·injection e with e1 e2 e3
  subst e1;subst e3
  refine (deleteFuncV_at K gf lb q hp eg g l n c sp hn hm (by omega) w hl hk hK).mono ?_
  rintro e w' ⟨m,sp',rfl,hlen,hmn,hL,hsz,hT⟩
  refine ⟨m,rfl,hlen,hmn,?_,hT⟩
  have:=own_of_lies hL hb (by omega) hcm (by omega)
  rwa [hlen] at this
end
def BoxN (G:Nat) (lo hi:Int) (W:World):Prop:=G<W.heap.size/\W.cell? ⟨G,1,none⟩=some (.int .i64 lo)/\W.cell? ⟨G,2,none⟩=some (.int .i64 hi)
def outN (lo hi:Int) (v:Val):Bool:=decide (v.i<lo) || decide (hi<v.i)
theorem predN_at (G:Nat) (lo hi:Int):PredK (BoxN G lo hi) 170 #[.pointer (some ⟨G,0,none⟩)] (outN lo hi):=by
 intro W x hK
 obtain⟨hG,h1,h2⟩:=hK
 obtain⟨xk,xi,xt⟩:=x
 show Calls Tryz.prog _ #[.agg (vC xk xi xt.toArray),.pointer (some ⟨G,0,none⟩)] W _
 have hne:¬W.heap.size=G:=by omega
 go_enter Tryz.func170,Tryz.ntmps170
 go_wp2_with fail
 all_goals (go_ret;refine ⟨ret_b ?_,gr1 _ _⟩;simp_all [outN])
 all_goals omega
def BoxT (G:Nat) (f t:LU) (o:Bool) (W:World):Prop:=G<W.heap.size/\W.cell? ⟨G,3,none⟩=some (.string ⟨f.toArray⟩)/\W.cell? ⟨G,4,none⟩=some (.string ⟨t.toArray⟩)/\W.cell? ⟨G,5,none⟩=some (.bool o)
def outT (f t:LU) (o:Bool) (v:Val):Bool:=bytesLess v.t f || (!o && !bytesLess v.t t)
theorem predT_at (G:Nat) (f t:LU) (o:Bool):PredK (BoxT G f t o) 171 #[.pointer (some ⟨G,0,none⟩)] (outT f t o):=by
 intro W x hK
 obtain⟨hG,h1,h2,h3⟩:=hK
 obtain⟨xk,xi,xt⟩:=x
 show Calls Tryz.prog _ #[.agg (vC xk xi xt.toArray),.pointer (some ⟨G,0,none⟩)] W _
 have hne:¬W.heap.size=G:=by omega
 go_enter Tryz.func171,Tryz.ntmps171
 go_wp2_with fail
 all_goals (go_ret;refine ⟨ret_b ?_,gr1 _ _⟩;simp_all [outT])
end
end Go.Proofs.YtnfigjggjmncdaaGreat
