/- Contracts. -/
import Derived.Test.YtnfigjggjmncdaaGreatB4
import Derived.Test.YtnfigjggjmncdaaGreatE2
import Derived.Test.YtnfigjggjmncdaaGreatE3
import Derived.Test.YtnfigjggjmncdaaGreatE5
set_option maxRecDepth 100000
set_option maxHeartbeats 4000000
namespace Go.Proofs.YtnfigjggjmncdaaGreat
section
open Go.RowKit Go.Sort Spans Op
theorem rmeet_left (lo hi:Int) (f t:LU) (o:Bool) (A:OA) (n c:Nat) (K' lo' hi':Int) (f' t':LU) (o':Bool) (A':OA) (n' c':Nat) (w:World):
  Calls Tryz.prog 89 #[.agg (sC 4 lo hi f.toArray t.toArray o A n c),.agg (sC K' lo' hi' f'.toArray t'.toArray o' A' n' c')] w fun e w'=>e=.returned (spF K' lo' hi' f' t' o' A' n' c')/\Below w.heap.size w w':=by
 have hgr:=gr3 w (.cells (sC 4 lo hi f.toArray t.toArray o A n c) 97) (.cells (sC K' lo' hi' f'.toArray t'.toArray o' A' n' c') 97) (.cells zC 97)
 have hX:=((Blk.new w 97 (sC 4 lo hi f.toArray t.toArray o A n c)).alloc (.cells (sC K' lo' hi' f'.toArray t'.toArray o' A' n' c') 97)).alloc (.cells zC 97)
 have hX2:=(Blk.new (w.alloc (.cells (sC 4 lo hi f.toArray t.toArray o A n c) 97)) 97 (sC K' lo' hi' f'.toArray t'.toArray o' A' n' c')).alloc (.cells zC 97)
 have hY:=Blk.new ((w.alloc (.cells (sC 4 lo hi f.toArray t.toArray o A n c) 97)).alloc (.cells (sC K' lo' hi' f'.toArray t'.toArray o' A' n' c') 97)) 97 zC
 rw[show (w.alloc (.cells (sC 4 lo hi f.toArray t.toArray o A n c) 97)).heap.size=w.heap.size+1 by simp] at hX2
 rw[show ((w.alloc (.cells (sC 4 lo hi f.toArray t.toArray o A n c) 97)).alloc (.cells (sC K' lo' hi' f'.toArray t'.toArray o' A' n' c') 97)).heap.size=w.heap.size+2 by simp] at hY
 have BB:=Jh hgr.below
 have HX:=Jh hX
 have HX2:=Jh hX2
 have HY:=Jh hY
 clear hgr hX hX2 hY
 obtain⟨b0,b1,b2,b3,b4,b5,b6,_⟩:=blk7 HX2.o
 obtain⟨z0,z1,z2,z3,z4,z5,z6,q0,q1,q2,q3,q4,q5,q6⟩:=blk7 HY.o
 have hlY:=HY.o.lt
 have hlX:=HX2.o.lt
 have a20:=HX.o.cell 0
 go_enter Tryz.func89,Tryz.ntmps89
 go_wp2_with fail
 refine bodyPost_ret (v:=spF K' lo' hi' f' t' o' A' n' c') (by simp[results,Tryz.results89,go_sem]) rfl ?_
 exact⟨rfl,(gr3 _ _ _ _).below⟩
theorem rmeet_right (K lo hi:Int) (f t:LU) (o:Bool) (A:OA) (n c:Nat) (lo' hi':Int) (f' t':LU) (o':Bool) (A':OA) (n' c':Nat) (w:World) (h4:K≠4):
  Calls Tryz.prog 89 #[.agg (sC K lo hi f.toArray t.toArray o A n c),.agg (sC 4 lo' hi' f'.toArray t'.toArray o' A' n' c')] w fun e w'=>e=.returned (spF K lo hi f t o A n c)/\Below w.heap.size w w':=by
 have hgr:=gr3 w (.cells (sC K lo hi f.toArray t.toArray o A n c) 97) (.cells (sC 4 lo' hi' f'.toArray t'.toArray o' A' n' c') 97) (.cells zC 97)
 have hX:=((Blk.new w 97 (sC K lo hi f.toArray t.toArray o A n c)).alloc (.cells (sC 4 lo' hi' f'.toArray t'.toArray o' A' n' c') 97)).alloc (.cells zC 97)
 have hX2:=(Blk.new (w.alloc (.cells (sC K lo hi f.toArray t.toArray o A n c) 97)) 97 (sC 4 lo' hi' f'.toArray t'.toArray o' A' n' c')).alloc (.cells zC 97)
 have hY:=Blk.new ((w.alloc (.cells (sC K lo hi f.toArray t.toArray o A n c) 97)).alloc (.cells (sC 4 lo' hi' f'.toArray t'.toArray o' A' n' c') 97)) 97 zC
 rw[show (w.alloc (.cells (sC K lo hi f.toArray t.toArray o A n c) 97)).heap.size=w.heap.size+1 by simp] at hX2
 rw[show ((w.alloc (.cells (sC K lo hi f.toArray t.toArray o A n c) 97)).alloc (.cells (sC 4 lo' hi' f'.toArray t'.toArray o' A' n' c') 97)).heap.size=w.heap.size+2 by simp] at hY
 have BB:=Jh hgr.below
 have HX:=Jh hX
 have HX2:=Jh hX2
 have HY:=Jh hY
 clear hgr hX hX2 hY
 have v4:(K == 4)=false:=beq_eq_false_iff_ne.2 h4
 clear h4
 obtain⟨b0,b1,b2,b3,b4,b5,b6,_⟩:=blk7 HX.o
 obtain⟨z0,z1,z2,z3,z4,z5,z6,q0,q1,q2,q3,q4,q5,q6⟩:=blk7 HY.o
 have hlY:=HY.o.lt
 have hlX:=HX.o.lt
 have b20:=HX2.o.cell 0
 go_enter Tryz.func89,Tryz.ntmps89
 go_wp2_with fail
 refine bodyPost_ret (v:=spF K lo hi f t o A n c) (by simp[results,Tryz.results89,go_sem]) rfl ?_
 exact⟨rfl,(gr3 _ _ _ _).below⟩
theorem rmeet_unlike (K lo hi:Int) (f t:LU) (o:Bool) (A:OA) (n c:Nat) (K' lo' hi':Int) (f' t':LU) (o':Bool) (A':OA) (n' c':Nat) (w:World) (h4:K≠4) (h4':K'≠4) (hk:K≠K'):
  Calls Tryz.prog 89 #[.agg (sC K lo hi f.toArray t.toArray o A n c),.agg (sC K' lo' hi' f'.toArray t'.toArray o' A' n' c')] w fun e w'=>e=.returned (spF 0 0 0 [] [] false none 0 0)/\Below w.heap.size w w':=by
 have hgr:=gr3 w (.cells (sC K lo hi f.toArray t.toArray o A n c) 97) (.cells (sC K' lo' hi' f'.toArray t'.toArray o' A' n' c') 97) (.cells zC 97)
 have hX:=((Blk.new w 97 (sC K lo hi f.toArray t.toArray o A n c)).alloc (.cells (sC K' lo' hi' f'.toArray t'.toArray o' A' n' c') 97)).alloc (.cells zC 97)
 have hX2:=(Blk.new (w.alloc (.cells (sC K lo hi f.toArray t.toArray o A n c) 97)) 97 (sC K' lo' hi' f'.toArray t'.toArray o' A' n' c')).alloc (.cells zC 97)
 have hY:=Blk.new ((w.alloc (.cells (sC K lo hi f.toArray t.toArray o A n c) 97)).alloc (.cells (sC K' lo' hi' f'.toArray t'.toArray o' A' n' c') 97)) 97 zC
 rw[show (w.alloc (.cells (sC K lo hi f.toArray t.toArray o A n c) 97)).heap.size=w.heap.size+1 by simp] at hX2
 rw[show ((w.alloc (.cells (sC K lo hi f.toArray t.toArray o A n c) 97)).alloc (.cells (sC K' lo' hi' f'.toArray t'.toArray o' A' n' c') 97)).heap.size=w.heap.size+2 by simp] at hY
 have BB:=Jh hgr.below
 have HX:=Jh hX
 have HX2:=Jh hX2
 have HY:=Jh hY
 clear hgr hX hX2 hY
 have v4:(K == 4)=false:=beq_eq_false_iff_ne.2 h4
 have v4':(K' == 4)=false:=beq_eq_false_iff_ne.2 h4'
 have vk:(K != K')=true:=by simpa using hk
 clear h4 h4' hk
 go_enter Tryz.func89,Tryz.ntmps89
 go_wp2_with fail
 refine bodyPost_ret (v:=spF 0 0 0 [] [] false none 0 0) (by simp[results,Tryz.results89,go_sem]) rfl ?_
 exact⟨rfl,(gr3 _ _ _ _).below⟩
theorem rmeet_none (lo hi:Int) (f t:LU) (o:Bool) (A:OA) (n c:Nat) (lo' hi':Int) (f' t':LU) (o':Bool) (A':OA) (n' c':Nat) (w:World):
  Calls Tryz.prog 89 #[.agg (sC 0 lo hi f.toArray t.toArray o A n c),.agg (sC 0 lo' hi' f'.toArray t'.toArray o' A' n' c')] w fun e w'=>e=.returned (spF 0 0 0 [] [] false none 0 0)/\Below w.heap.size w w':=by
 have hgr:=gr3 w (.cells (sC 0 lo hi f.toArray t.toArray o A n c) 97) (.cells (sC 0 lo' hi' f'.toArray t'.toArray o' A' n' c') 97) (.cells zC 97)
 have hX:=((Blk.new w 97 (sC 0 lo hi f.toArray t.toArray o A n c)).alloc (.cells (sC 0 lo' hi' f'.toArray t'.toArray o' A' n' c') 97)).alloc (.cells zC 97)
 have hX2:=(Blk.new (w.alloc (.cells (sC 0 lo hi f.toArray t.toArray o A n c) 97)) 97 (sC 0 lo' hi' f'.toArray t'.toArray o' A' n' c')).alloc (.cells zC 97)
 have hY:=Blk.new ((w.alloc (.cells (sC 0 lo hi f.toArray t.toArray o A n c) 97)).alloc (.cells (sC 0 lo' hi' f'.toArray t'.toArray o' A' n' c') 97)) 97 zC
 rw[show (w.alloc (.cells (sC 0 lo hi f.toArray t.toArray o A n c) 97)).heap.size=w.heap.size+1 by simp] at hX2
 rw[show ((w.alloc (.cells (sC 0 lo hi f.toArray t.toArray o A n c) 97)).alloc (.cells (sC 0 lo' hi' f'.toArray t'.toArray o' A' n' c') 97)).heap.size=w.heap.size+2 by simp] at hY
 have BB:=Jh hgr.below
 have HX:=Jh hX
 have HX2:=Jh hX2
 have HY:=Jh hY
 clear hgr hX hX2 hY
 go_enter Tryz.func89,Tryz.ntmps89
 go_wp2_with fail
 refine bodyPost_ret (v:=spF 0 0 0 [] [] false none 0 0) (by simp[results,Tryz.results89,go_sem]) rfl ?_
 exact⟨rfl,(gr3 _ _ _ _).below⟩
theorem rmeet_1 (lo hi:Int) (A:OA) (n c:Nat) (lo' hi':Int) (A':OA) (n' c':Nat) (w:World) (es fs:List Val) (hlow:lowest 1<=max lo lo') (hhigh:min hi hi'<=highest 1) (hl:∀v∈es++fs,v.k=1/\v.t=[]) (hn:es.length=n) (hm:n<=500) (hn':fs.length=n') (hm':n'<=500) (hr:RdW w A es) (hr':RdW w A' fs):
  Calls Tryz.prog 89 #[spF 1 lo hi [] [] false A n c,spF 1 lo' hi' [] [] false A' n' c'] w (GivesS w (IsInts 1 (max lo lo') (min hi hi') (es++fs)) (n+n')):=by
 have HN:=Jh hn
 have HN':=Jh hn'
 have R1:=Jh hr
 have R2:=Jh hr'
 have HLL:=Jh hl
 clear hn hn' hr hr' hl
 have hgr:=gr3 w (.cells (sC 1 lo hi #[] #[] false A n c) 97) (.cells (sC 1 lo' hi' #[] #[] false A' n' c') 97) (.cells zC 97)
 have hX:=((Blk.new w 97 (sC 1 lo hi #[] #[] false A n c)).alloc (.cells (sC 1 lo' hi' #[] #[] false A' n' c') 97)).alloc (.cells zC 97)
 have hX2:=(Blk.new (w.alloc (.cells (sC 1 lo hi #[] #[] false A n c) 97)) 97 (sC 1 lo' hi' #[] #[] false A' n' c')).alloc (.cells zC 97)
 have hY:=Blk.new ((w.alloc (.cells (sC 1 lo hi #[] #[] false A n c) 97)).alloc (.cells (sC 1 lo' hi' #[] #[] false A' n' c') 97)) 97 zC
 rw[show (w.alloc (.cells (sC 1 lo hi #[] #[] false A n c) 97)).heap.size=w.heap.size+1 by simp] at hX2
 rw[show ((w.alloc (.cells (sC 1 lo hi #[] #[] false A n c) 97)).alloc (.cells (sC 1 lo' hi' #[] #[] false A' n' c') 97)).heap.size=w.heap.size+2 by simp] at hY
 have BB:=Jh hgr.below
 have HX:=Jh hX
 have HX2:=Jh hX2
 have HY:=Jh hY
 clear hgr hX hX2 hY
 go_enter Tryz.func89,Tryz.ntmps89
 go_wp2_with fail
 generalize (((w.alloc (.cells (sC 1 lo hi #[] #[] false A n c) 97)).alloc (.cells (sC 1 lo' hi' #[] #[] false A' n' c') 97)).alloc (.cells zC 97))=w0 at *
 have hS0:Blk w0.drew w.heap.size 97 (sC 1 lo hi #[] #[] false A n c)/\Blk w0.drew (w.heap.size+1) 97 (sC 1 lo' hi' #[] #[] false A' n' c'):=⟨HX.o,HX2.o⟩
 refine wp_region_held_drew (S:=fun w'=>Blk w' w.heap.size 97 (sC 1 lo hi #[] #[] false A n c)/\Blk w' (w.heap.size+1) 97 (sC 1 lo' hi' #[] #[] false A' n' c')) (by kernel_rfl) hS0 (fun _=>?_)
 refine Jz 1 hS0 ?_
 refine Jz 2 hS0 ?_
 refine Jz 4 hS0 ?_
 refine Jz 5 hS0 ?_
 have HX':=Jh (Blk.below HX.o (show Below w0.heap.size w0 w0.drew from (Below.refl _ _).drew) HX.o.lt)
 have HX2':=Jh (Blk.below HX2.o (show Below w0.heap.size w0 w0.drew from (Below.refl _ _).drew) HX2.o.lt)
 have HY':=Jh (Blk.below HY.o (show Below w0.heap.size w0 w0.drew from (Below.refl _ _).drew) HY.o.lt)
 have BB':=Jh BB.o.drew
 clear hS0 HX HX2 HY BB
 have HX:=HX'
 clear HX'
 have HX2:=HX2'
 clear HX2'
 have HY:=HY'
 clear HY'
 have BB:=BB'
 clear BB'
 generalize w0.drew=wA at *
 refine Je 0 (fun K hK=>?_)
 go_simp
 have hO0:OwnW (wA.alloc (.cells #[] 52)) wA.heap.size (.slice (some ⟨wA.heap.size,0,none⟩) 0 0) []:=OwnK.empty wA wA.heap.size (Jn)
 have hb:Below wA.heap.size wA (wA.alloc (.cells #[] 52)):=(gr1 wA _).below
 have hs6:=hb.size
 have hB7:w.heap.size<=wA.heap.size:=BB.o.size
 have hlX:=HX.o.lt
 have hlX2:=HX2.o.lt
 have hlY:=HY.o.lt
 replace HX:=Jh (Blk.below HX.o hb HX.o.lt)
 replace HX2:=Jh (Blk.below HX2.o hb HX2.o.lt)
 replace HY:=Jh (Blk.below HY.o hb HY.o.lt)
 replace BB:=Jh (below_next BB.o (Jn) hb)
 clear hb
 generalize (wA.alloc (.cells #[] 52))=wB at *
 refine hK.o _ _ ⟨HX.o,HX2.o⟩ ?_
 clear hK
 generalize wA.heap.size=B7 at *
 have HN0:Hid ((es:List Val).length=n):=HN
 refine Je 3 (fun K hK=>?_)
 refine op_append_k layV (.tmp 27) (.tmp 29) 95 underV (by rfl) B7 _ ([]) (by rfl) hO0 A (es) (n) (c) (by rfl) (RdK.below R1.o BB.o) HN.o (by rw[maxLen_num];simp;omega) (by simp only[layV];simp;omega) hs6 ?_
 intro v3 wC o7 hbx
 have hb7:Below B7 wB wC:=hbx wB (Below.refl _ _)
 clear hbx
 replace HX:=Jh (Blk.below HX.o hb7 (by omega))
 replace HX2:=Jh (Blk.below HX2.o hb7 (by omega))
 replace HY:=Jh (Blk.below HY.o hb7 (by omega))
 replace BB:=Jh (BB.o.trans (hb7.mono (by omega)))
 replace hs6:=Nat.le_trans hs6 hb7.size
 clear hb7
 rw[List.nil_append] at o7
 obtain⟨A7,c7,hv7,hc7,_⟩:=OwnK.form o7 HN.o
 subst hv7
 refine hK.o _ _ ⟨HX.o,HX2.o⟩ ?_
 clear hK hO0
 simp only[Act.put,zu0,zu1,zu2]
 refine Je 6 (fun K hK=>?_)
 refine op_append_k layV (.tmp 30) (.tmp 32) 95 underV (by rfl) B7 _ (es) (by rfl) o7 A' (fs) (n') (c') (by rfl) (RdK.below R2.o BB.o) HN'.o (by rw[maxLen_num];rw[HN.o];omega) (by simp only[layV];rw[HN.o];omega) hs6 ?_
 intro v6 wD o9 hbx
 have hb7:Below B7 wC wD:=hbx wC (Below.refl _ _)
 clear hbx
 replace HX:=Jh (Blk.below HX.o hb7 (by omega))
 replace HX2:=Jh (Blk.below HX2.o hb7 (by omega))
 replace HY:=Jh (Blk.below HY.o hb7 (by omega))
 replace BB:=Jh (BB.o.trans (hb7.mono (by omega)))
 replace hs6:=Nat.le_trans hs6 hb7.size
 clear hb7
 obtain⟨A9,c9,hv9,hc9,_⟩:=OwnK.form o9 (n:=n+n') (by rw[List.length_append,HN.o,HN'.o])
 subst hv9
 have HO:=Jh o9
 clear o9 o7 HN0
 refine hK.o _ _ ⟨HX.o,HX2.o⟩ ?_
 clear hK
 simp only[Act.put,zu0,zu1,zu2]
 refine Jz 7 ⟨HX.o,HX2.o⟩ ?_
 refine Jd ?_
 clear hs6 hlX hlX2 hlY
 obtain⟨a0,a1,a2,a3,a4,a5,a6,_⟩:=blk7 HX.o
 obtain⟨b0,b1,b2,b3,b4,b5,b6,_⟩:=blk7 HX2.o
 have hlX:=HX.o.lt
 have hlX2:=HX2.o.lt
 go_wp2_with fail
 clear a0 a1 a2 a3 a4 a5 a6 b0 b1 b2 b3 b4 b5 b6 hlX hlX2
 refine (rints_at 1 (max lo lo') (min hi hi') A9 (es++fs) (n+n') c9 (by decide) hlow hhigh (by rw[List.length_append,HN.o,HN'.o]) (by omega) HLL.o wD (rdk_own' HO.o)).mono ?_
 rintro e wE ⟨⟨rK,rlo,rhi,rf,rt,ro,rno⟩,hin,hrl,A7,n7,c7,rfl,hl7,hc7,ho7,hb7⟩
 dsimp only at hrl hl7 ho7
 have HIN:=Jh hin
 clear hin
 have hY3:=Blk.below HY.o hb7 HY.o.lt
 have hB3:=below_next BB.o (Jn) hb7
 obtain⟨u0,u1,u2,u3,u4,u5,u6,q0,q1,q2,q3,q4,q5,q6⟩:=blk7 hY3
 have hlY:=hY3.lt
 have HL7:=Jh hl7
 have HC7:=Jh hc7
 have hs7:w.heap.size+2<wD.heap.size:=HY.o.lt
 have HO7:=Jh ho7
 have HB3:=Jh hB3
 clear hb7 hl7 hc7 ho7 hB3 hY3 HX HX2 HO
 go_wp2_with fail
 refine bodyPost_ret (v:=spF rK rlo rhi rf rt ro A7 n7 c7) (by simp[results,Tryz.results89,go_sem,u0,u1,u2,u3,u4,u5,u6]) rfl ?_
 exact⟨⟨rK,rlo,rhi,rf,rt,ro,rno⟩,HIN.o,by show rno.length<=n+n';have:=hrl;omega,A7,n7,c7,rfl,HL7.o,HC7.o,(OwnK.put7 HO7.o (by omega) _ _ _ _ _ _ _).less (by omega),below_put7 HB3.o (by omega) _ _ _ _ _ _ _⟩
theorem rtexts_is (frm to_:LU) (opn:Bool) (A:OA) (l:List Val) (n c:Nat) (hf:Short frm) (ho:opn=true->to_=[]) (ht:opn=false->Short to_) (hn:l.length=n) (hm:n<=1000) (hl:∀v∈l,v.k=2/\v.i=0/\v.t.length<=32) (w:World) (hr:RdW w A l):
  Calls Tryz.prog 122 #[.string ⟨frm.toArray⟩,.string ⟨to_.toArray⟩,.bool opn,.slice A n c] w (GivesS w (IsTexts frm to_ opn l) n):=by
 cases opn with
 | true=>obtain rfl:=ho rfl;exact rtexts_open frm A l n c hf hn hm hl w hr
 | false=>exact rtexts_shut frm to_ A l n c hf (ht rfl) hn hm hl w hr
theorem rmeet_2 (f t:LU) (o:Bool) (A:OA) (n c:Nat) (f' t':LU) (o':Bool) (A':OA) (n' c':Nat) (w:World) (es fs:List Val) (ff:LU) (hf:maxT f f'=ff) (tt:LU) (ht:(if o then t' else if o' then t else minT t t')=tt) (hshort:Short ff) (hop:(o && o')=true->tt=[]) (hsh:(o && o')=false->Short tt) (hlf:f.length<=9223372036854775807) (hlf':f'.length<=9223372036854775807) (hltt:t.length<=9223372036854775807) (hlt':t'.length<=9223372036854775807) (hl:∀v∈es++fs,v.k=2/\v.i=0/\v.t.length<=32) (hn:es.length=n) (hm:n<=500) (hn':fs.length=n') (hm':n'<=500) (hr:RdW w A es) (hr':RdW w A' fs):
  Calls Tryz.prog 89 #[spF 2 0 0 f t o A n c,spF 2 0 0 f' t' o' A' n' c'] w (GivesS w (IsTexts ff tt (o && o') (es++fs)) (n+n')):=by
 have HN:=Jh hn
 have HN':=Jh hn'
 have R1:=Jh hr
 have R2:=Jh hr'
 have HLL:=Jh hl
 clear hn hn' hr hr' hl
 have HF:=Jh hf
 have HT:=Jh ht
 have HS:=Jh hshort
 have HOP:=Jh hop
 have HSH:=Jh hsh
 clear hf ht hshort hop hsh
 have hgr:=gr3 w (.cells (sC 2 0 0 f.toArray t.toArray o A n c) 97) (.cells (sC 2 0 0 f'.toArray t'.toArray o' A' n' c') 97) (.cells zC 97)
 have hX:=((Blk.new w 97 (sC 2 0 0 f.toArray t.toArray o A n c)).alloc (.cells (sC 2 0 0 f'.toArray t'.toArray o' A' n' c') 97)).alloc (.cells zC 97)
 have hX2:=(Blk.new (w.alloc (.cells (sC 2 0 0 f.toArray t.toArray o A n c) 97)) 97 (sC 2 0 0 f'.toArray t'.toArray o' A' n' c')).alloc (.cells zC 97)
 have hY:=Blk.new ((w.alloc (.cells (sC 2 0 0 f.toArray t.toArray o A n c) 97)).alloc (.cells (sC 2 0 0 f'.toArray t'.toArray o' A' n' c') 97)) 97 zC
 rw[show (w.alloc (.cells (sC 2 0 0 f.toArray t.toArray o A n c) 97)).heap.size=w.heap.size+1 by simp] at hX2
 rw[show ((w.alloc (.cells (sC 2 0 0 f.toArray t.toArray o A n c) 97)).alloc (.cells (sC 2 0 0 f'.toArray t'.toArray o' A' n' c') 97)).heap.size=w.heap.size+2 by simp] at hY
 have BB:=Jh hgr.below
 have HX:=Jh hX
 have HX2:=Jh hX2
 have HY:=Jh hY
 clear hgr hX hX2 hY
 go_enter Tryz.func89,Tryz.ntmps89
 go_wp2_with fail
 generalize (((w.alloc (.cells (sC 2 0 0 f.toArray t.toArray o A n c) 97)).alloc (.cells (sC 2 0 0 f'.toArray t'.toArray o' A' n' c') 97)).alloc (.cells zC 97))=w0 at *
 have hS0:Blk w0.drew w.heap.size 97 (sC 2 0 0 f.toArray t.toArray o A n c)/\Blk w0.drew (w.heap.size+1) 97 (sC 2 0 0 f'.toArray t'.toArray o' A' n' c'):=⟨HX.o,HX2.o⟩
 refine wp_region_held_drew (S:=fun w'=>Blk w' w.heap.size 97 (sC 2 0 0 f.toArray t.toArray o A n c)/\Blk w' (w.heap.size+1) 97 (sC 2 0 0 f'.toArray t'.toArray o' A' n' c')) (by kernel_rfl) hS0 (fun _=>?_)
 refine Jz 1 hS0 ?_
 refine Jz 2 hS0 ?_
 refine Jz 4 hS0 ?_
 refine Jz 5 hS0 ?_
 have HX':=Jh (Blk.below HX.o (show Below w0.heap.size w0 w0.drew from (Below.refl _ _).drew) HX.o.lt)
 have HX2':=Jh (Blk.below HX2.o (show Below w0.heap.size w0 w0.drew from (Below.refl _ _).drew) HX2.o.lt)
 have HY':=Jh (Blk.below HY.o (show Below w0.heap.size w0 w0.drew from (Below.refl _ _).drew) HY.o.lt)
 have BB':=Jh BB.o.drew
 clear hS0 HX HX2 HY BB
 have HX:=HX'
 clear HX'
 have HX2:=HX2'
 clear HX2'
 have HY:=HY'
 clear HY'
 have BB:=BB'
 clear BB'
 generalize w0.drew=wA at *
 refine Je 0 (fun K hK=>?_)
 go_simp
 have hO0:OwnW (wA.alloc (.cells #[] 52)) wA.heap.size (.slice (some ⟨wA.heap.size,0,none⟩) 0 0) []:=OwnK.empty wA wA.heap.size (Jn)
 have hb:Below wA.heap.size wA (wA.alloc (.cells #[] 52)):=(gr1 wA _).below
 have hs6:=hb.size
 have hB7:w.heap.size<=wA.heap.size:=BB.o.size
 have hlX:=HX.o.lt
 have hlX2:=HX2.o.lt
 have hlY:=HY.o.lt
 replace HX:=Jh (Blk.below HX.o hb HX.o.lt)
 replace HX2:=Jh (Blk.below HX2.o hb HX2.o.lt)
 replace HY:=Jh (Blk.below HY.o hb HY.o.lt)
 replace BB:=Jh (below_next BB.o (Jn) hb)
 clear hb
 generalize (wA.alloc (.cells #[] 52))=wB at *
 refine hK.o _ _ ⟨HX.o,HX2.o⟩ ?_
 clear hK
 generalize wA.heap.size=B7 at *
 have HN0:Hid ((es:List Val).length=n):=HN
 refine Je 3 (fun K hK=>?_)
 refine op_append_k layV (.tmp 27) (.tmp 29) 95 underV (by rfl) B7 _ ([]) (by rfl) hO0 A (es) (n) (c) (by rfl) (RdK.below R1.o BB.o) HN.o (by rw[maxLen_num];simp;omega) (by simp only[layV];simp;omega) hs6 ?_
 intro v3 wC o7 hbx
 have hb7:Below B7 wB wC:=hbx wB (Below.refl _ _)
 clear hbx
 replace HX:=Jh (Blk.below HX.o hb7 (by omega))
 replace HX2:=Jh (Blk.below HX2.o hb7 (by omega))
 replace HY:=Jh (Blk.below HY.o hb7 (by omega))
 replace BB:=Jh (BB.o.trans (hb7.mono (by omega)))
 replace hs6:=Nat.le_trans hs6 hb7.size
 clear hb7
 rw[List.nil_append] at o7
 obtain⟨A7,c7,hv7,hc7,_⟩:=OwnK.form o7 HN.o
 subst hv7
 refine hK.o _ _ ⟨HX.o,HX2.o⟩ ?_
 clear hK hO0
 simp only[Act.put,zu0,zu1,zu2]
 refine Je 6 (fun K hK=>?_)
 refine op_append_k layV (.tmp 30) (.tmp 32) 95 underV (by rfl) B7 _ (es) (by rfl) o7 A' (fs) (n') (c') (by rfl) (RdK.below R2.o BB.o) HN'.o (by rw[maxLen_num];rw[HN.o];omega) (by simp only[layV];rw[HN.o];omega) hs6 ?_
 intro v6 wD o9 hbx
 have hb7:Below B7 wC wD:=hbx wC (Below.refl _ _)
 clear hbx
 replace HX:=Jh (Blk.below HX.o hb7 (by omega))
 replace HX2:=Jh (Blk.below HX2.o hb7 (by omega))
 replace HY:=Jh (Blk.below HY.o hb7 (by omega))
 replace BB:=Jh (BB.o.trans (hb7.mono (by omega)))
 replace hs6:=Nat.le_trans hs6 hb7.size
 clear hb7
 obtain⟨A9,c9,hv9,hc9,_⟩:=OwnK.form o9 (n:=n+n') (by rw[List.length_append,HN.o,HN'.o])
 subst hv9
 have HO:=Jh o9
 clear o9 o7 HN0
 refine hK.o _ _ ⟨HX.o,HX2.o⟩ ?_
 clear hK
 simp only[Act.put,zu0,zu1,zu2]
 refine Jz 7 ⟨HX.o,HX2.o⟩ ?_
 refine Jd ?_
 clear hs6 hlX hlX2 hlY
 obtain⟨a0,a1,a2,a3,a4,a5,a6,_⟩:=blk7 HX.o
 obtain⟨b0,b1,b2,b3,b4,b5,b6,_⟩:=blk7 HX2.o
 have hlX:=HX.o.lt
 have hlX2:=HX2.o.lt
 obtain⟨z1,hz1⟩:∃z,Vals.cmpT f f'=z:=⟨_,rfl⟩
 have HZ1:=Jh hz1
 clear hz1
 go_wp2_with fail
 refine (textG_at f f' hlf hlf' wD).mono ?_
 rintro e wE ⟨rfl,hg⟩
 rw[HZ1.o]
 have hb:=hg.below
 clear hg
 clear a0 a1 a2 a3 a4 a5 a6 b0 b1 b2 b3 b4 b5 b6 hlX hlX2
 replace HX:=Jh (Blk.below HX.o hb HX.o.lt)
 replace HX2:=Jh (Blk.below HX2.o hb HX2.o.lt)
 replace HY:=Jh (Blk.below HY.o hb HY.o.lt)
 replace BB:=Jh (below_next BB.o (Jn) hb)
 replace HO:=Jh (OwnK.below HO.o hb)
 clear hb
 obtain⟨a0,a1,a2,a3,a4,a5,a6,_⟩:=blk7 HX.o
 obtain⟨b0,b1,b2,b3,b4,b5,b6,_⟩:=blk7 HX2.o
 have hlX:=HX.o.lt
 have hlX2:=HX2.o.lt
 cases hlt:bytesLess f f' with
 | true=>
  have u5:decide (z1<0)=true:=decide_eq_true (by rw[<-HZ1.o];exact (cmpT_neg_iff f f').2 hlt)
  have HFF:Hid (f'=ff):=by show _=_;rw[<-HF.o];unfold maxT;rw[if_pos hlt]
  clear hlt
  cases o with
  | true=>
   cases o' with
   | true=>
    have HTT:Hid (t'=tt):=by show _=_;rw[<-HT.o];rfl
    go_wp2_with fail
    rw[HFF.o,HTT.o]
    clear a0 a1 a2 a3 a4 a5 a6 b0 b1 b2 b3 b4 b5 b6 hlX hlX2
    refine (rtexts_is ff tt true A9 (es++fs) (n+n') c9 HS.o (fun h=>HOP.o (by first | exact h | cases h)) (fun h=>HSH.o (by first | exact h | cases h)) (by rw[List.length_append,HN.o,HN'.o]) (by omega) HLL.o wE (rdk_own' HO.o)).mono ?_
    rintro e wF ⟨⟨rK,rlo,rhi,rf,rt,ro,rno⟩,hin,hrl,A7,n7,c7,rfl,hl7,hc7,ho7,hb7⟩
    dsimp only at hrl hl7 ho7
    have HIN:=Jh hin
    clear hin
    have hY3:=Blk.below HY.o hb7 HY.o.lt
    have hB3:=below_next BB.o (Jn) hb7
    obtain⟨u0,u1,u2,u3,u4,u5,u6,q0,q1,q2,q3,q4,q5,q6⟩:=blk7 hY3
    have hlY:=hY3.lt
    have HL7:=Jh hl7
    have HC7:=Jh hc7
    have hs7:w.heap.size+2<wE.heap.size:=HY.o.lt
    have HO7:=Jh ho7
    have HB3:=Jh hB3
    clear hb7 hl7 hc7 ho7 hB3 hY3 HX HX2 HO
    go_wp2_with fail
    refine bodyPost_ret (v:=spF rK rlo rhi rf rt ro A7 n7 c7) (by simp[results,Tryz.results89,go_sem,u0,u1,u2,u3,u4,u5,u6]) rfl ?_
    exact⟨⟨rK,rlo,rhi,rf,rt,ro,rno⟩,HIN.o,by show rno.length<=n+n';have:=hrl;omega,A7,n7,c7,rfl,HL7.o,HC7.o,(OwnK.put7 HO7.o (by omega) _ _ _ _ _ _ _).less (by omega),below_put7 HB3.o (by omega) _ _ _ _ _ _ _⟩
   | false=>
    have HTT:Hid (t'=tt):=by show _=_;rw[<-HT.o];rfl
    go_wp2_with fail
    rw[HFF.o,HTT.o]
    clear a0 a1 a2 a3 a4 a5 a6 b0 b1 b2 b3 b4 b5 b6 hlX hlX2
    refine (rtexts_is ff tt false A9 (es++fs) (n+n') c9 HS.o (fun h=>HOP.o (by first | exact h | cases h)) (fun h=>HSH.o (by first | exact h | cases h)) (by rw[List.length_append,HN.o,HN'.o]) (by omega) HLL.o wE (rdk_own' HO.o)).mono ?_
    rintro e wF ⟨⟨rK,rlo,rhi,rf,rt,ro,rno⟩,hin,hrl,A7,n7,c7,rfl,hl7,hc7,ho7,hb7⟩
    dsimp only at hrl hl7 ho7
    have HIN:=Jh hin
    clear hin
    have hY3:=Blk.below HY.o hb7 HY.o.lt
    have hB3:=below_next BB.o (Jn) hb7
    obtain⟨u0,u1,u2,u3,u4,u5,u6,q0,q1,q2,q3,q4,q5,q6⟩:=blk7 hY3
    have hlY:=hY3.lt
    have HL7:=Jh hl7
    have HC7:=Jh hc7
    have hs7:w.heap.size+2<wE.heap.size:=HY.o.lt
    have HO7:=Jh ho7
    have HB3:=Jh hB3
    clear hb7 hl7 hc7 ho7 hB3 hY3 HX HX2 HO
    go_wp2_with fail
    refine bodyPost_ret (v:=spF rK rlo rhi rf rt ro A7 n7 c7) (by simp[results,Tryz.results89,go_sem,u0,u1,u2,u3,u4,u5,u6]) rfl ?_
    exact⟨⟨rK,rlo,rhi,rf,rt,ro,rno⟩,HIN.o,by show rno.length<=n+n';have:=hrl;omega,A7,n7,c7,rfl,HL7.o,HC7.o,(OwnK.put7 HO7.o (by omega) _ _ _ _ _ _ _).less (by omega),below_put7 HB3.o (by omega) _ _ _ _ _ _ _⟩
  | false=>
   cases o' with
   | true=>
    have HTT:Hid (t=tt):=by show _=_;rw[<-HT.o];rfl
    go_wp2_with fail
    rw[HFF.o,HTT.o]
    clear a0 a1 a2 a3 a4 a5 a6 b0 b1 b2 b3 b4 b5 b6 hlX hlX2
    refine (rtexts_is ff tt false A9 (es++fs) (n+n') c9 HS.o (fun h=>HOP.o (by first | exact h | cases h)) (fun h=>HSH.o (by first | exact h | cases h)) (by rw[List.length_append,HN.o,HN'.o]) (by omega) HLL.o wE (rdk_own' HO.o)).mono ?_
    rintro e wF ⟨⟨rK,rlo,rhi,rf,rt,ro,rno⟩,hin,hrl,A7,n7,c7,rfl,hl7,hc7,ho7,hb7⟩
    dsimp only at hrl hl7 ho7
    have HIN:=Jh hin
    clear hin
    have hY3:=Blk.below HY.o hb7 HY.o.lt
    have hB3:=below_next BB.o (Jn) hb7
    obtain⟨u0,u1,u2,u3,u4,u5,u6,q0,q1,q2,q3,q4,q5,q6⟩:=blk7 hY3
    have hlY:=hY3.lt
    have HL7:=Jh hl7
    have HC7:=Jh hc7
    have hs7:w.heap.size+2<wE.heap.size:=HY.o.lt
    have HO7:=Jh ho7
    have HB3:=Jh hB3
    clear hb7 hl7 hc7 ho7 hB3 hY3 HX HX2 HO
    go_wp2_with fail
    refine bodyPost_ret (v:=spF rK rlo rhi rf rt ro A7 n7 c7) (by simp[results,Tryz.results89,go_sem,u0,u1,u2,u3,u4,u5,u6]) rfl ?_
    exact⟨⟨rK,rlo,rhi,rf,rt,ro,rno⟩,HIN.o,by show rno.length<=n+n';have:=hrl;omega,A7,n7,c7,rfl,HL7.o,HC7.o,(OwnK.put7 HO7.o (by omega) _ _ _ _ _ _ _).less (by omega),below_put7 HB3.o (by omega) _ _ _ _ _ _ _⟩
   | false=>
    obtain⟨z2,hz2⟩:∃z,Vals.cmpT t' t=z:=⟨_,rfl⟩
    have HZ2:=Jh hz2
    clear hz2
    go_wp2_with fail
    refine (textG_at t' t hlt' hltt wE).mono ?_
    rintro e wF ⟨rfl,hg⟩
    rw[HZ2.o]
    have hb:=hg.below
    clear hg
    clear a0 a1 a2 a3 a4 a5 a6 b0 b1 b2 b3 b4 b5 b6 hlX hlX2
    replace HX:=Jh (Blk.below HX.o hb HX.o.lt)
    replace HX2:=Jh (Blk.below HX2.o hb HX2.o.lt)
    replace HY:=Jh (Blk.below HY.o hb HY.o.lt)
    replace BB:=Jh (below_next BB.o (Jn) hb)
    replace HO:=Jh (OwnK.below HO.o hb)
    clear hb
    obtain⟨a0,a1,a2,a3,a4,a5,a6,_⟩:=blk7 HX.o
    obtain⟨b0,b1,b2,b3,b4,b5,b6,_⟩:=blk7 HX2.o
    have hlX:=HX.o.lt
    have hlX2:=HX2.o.lt
    cases hl2:bytesLess t' t with
    | true=>
     have u6:decide (z2<0)=true:=decide_eq_true (by rw[<-HZ2.o];exact (cmpT_neg_iff t' t).2 hl2)
     have HTT:Hid (t'=tt):=by show _=_;rw[<-HT.o];show t'=minT t t';unfold minT;rw[if_pos hl2]
     clear hl2
     go_wp2_with fail
     rw[HFF.o,HTT.o]
     clear a0 a1 a2 a3 a4 a5 a6 b0 b1 b2 b3 b4 b5 b6 hlX hlX2
     refine (rtexts_is ff tt false A9 (es++fs) (n+n') c9 HS.o (fun h=>HOP.o (by first | exact h | cases h)) (fun h=>HSH.o (by first | exact h | cases h)) (by rw[List.length_append,HN.o,HN'.o]) (by omega) HLL.o wF (rdk_own' HO.o)).mono ?_
     rintro e wG ⟨⟨rK,rlo,rhi,rf,rt,ro,rno⟩,hin,hrl,A7,n7,c7,rfl,hl7,hc7,ho7,hb7⟩
     dsimp only at hrl hl7 ho7
     have HIN:=Jh hin
     clear hin
     have hY3:=Blk.below HY.o hb7 HY.o.lt
     have hB3:=below_next BB.o (Jn) hb7
     obtain⟨u0,u1,u2,u3,u4,u5,u6,q0,q1,q2,q3,q4,q5,q6⟩:=blk7 hY3
     have hlY:=hY3.lt
     have HL7:=Jh hl7
     have HC7:=Jh hc7
     have hs7:w.heap.size+2<wF.heap.size:=HY.o.lt
     have HO7:=Jh ho7
     have HB3:=Jh hB3
     clear hb7 hl7 hc7 ho7 hB3 hY3 HX HX2 HO
     go_wp2_with fail
     refine bodyPost_ret (v:=spF rK rlo rhi rf rt ro A7 n7 c7) (by simp[results,Tryz.results89,go_sem,u0,u1,u2,u3,u4,u5,u6]) rfl ?_
     exact⟨⟨rK,rlo,rhi,rf,rt,ro,rno⟩,HIN.o,by show rno.length<=n+n';have:=hrl;omega,A7,n7,c7,rfl,HL7.o,HC7.o,(OwnK.put7 HO7.o (by omega) _ _ _ _ _ _ _).less (by omega),below_put7 HB3.o (by omega) _ _ _ _ _ _ _⟩
    | false=>
     have u6:decide (z2<0)=false:=decide_eq_false (by rw[<-HZ2.o];intro h;have:=(cmpT_neg_iff t' t).1 h;rw[hl2] at this;cases this)
     have HTT:Hid (t=tt):=by show _=_;rw[<-HT.o];show t=minT t t';unfold minT;rw[if_neg (by rw[hl2];simp)]
     clear hl2
     go_wp2_with fail
     rw[HFF.o,HTT.o]
     clear a0 a1 a2 a3 a4 a5 a6 b0 b1 b2 b3 b4 b5 b6 hlX hlX2
     refine (rtexts_is ff tt false A9 (es++fs) (n+n') c9 HS.o (fun h=>HOP.o (by first | exact h | cases h)) (fun h=>HSH.o (by first | exact h | cases h)) (by rw[List.length_append,HN.o,HN'.o]) (by omega) HLL.o wF (rdk_own' HO.o)).mono ?_
     rintro e wG ⟨⟨rK,rlo,rhi,rf,rt,ro,rno⟩,hin,hrl,A7,n7,c7,rfl,hl7,hc7,ho7,hb7⟩
     dsimp only at hrl hl7 ho7
     have HIN:=Jh hin
     clear hin
     have hY3:=Blk.below HY.o hb7 HY.o.lt
     have hB3:=below_next BB.o (Jn) hb7
     obtain⟨u0,u1,u2,u3,u4,u5,u6,q0,q1,q2,q3,q4,q5,q6⟩:=blk7 hY3
     have hlY:=hY3.lt
     have HL7:=Jh hl7
     have HC7:=Jh hc7
     have hs7:w.heap.size+2<wF.heap.size:=HY.o.lt
     have HO7:=Jh ho7
     have HB3:=Jh hB3
     clear hb7 hl7 hc7 ho7 hB3 hY3 HX HX2 HO
     go_wp2_with fail
     refine bodyPost_ret (v:=spF rK rlo rhi rf rt ro A7 n7 c7) (by simp[results,Tryz.results89,go_sem,u0,u1,u2,u3,u4,u5,u6]) rfl ?_
     exact⟨⟨rK,rlo,rhi,rf,rt,ro,rno⟩,HIN.o,by show rno.length<=n+n';have:=hrl;omega,A7,n7,c7,rfl,HL7.o,HC7.o,(OwnK.put7 HO7.o (by omega) _ _ _ _ _ _ _).less (by omega),below_put7 HB3.o (by omega) _ _ _ _ _ _ _⟩
 | false=>
  have u5:decide (z1<0)=false:=decide_eq_false (by rw[<-HZ1.o];intro h;have:=(cmpT_neg_iff f f').1 h;rw[hlt] at this;cases this)
  have HFF:Hid (f=ff):=by show _=_;rw[<-HF.o];unfold maxT;rw[if_neg (by rw[hlt];simp)]
  clear hlt
  cases o with
  | true=>
   cases o' with
   | true=>
    have HTT:Hid (t'=tt):=by show _=_;rw[<-HT.o];rfl
    go_wp2_with fail
    rw[HFF.o,HTT.o]
    clear a0 a1 a2 a3 a4 a5 a6 b0 b1 b2 b3 b4 b5 b6 hlX hlX2
    refine (rtexts_is ff tt true A9 (es++fs) (n+n') c9 HS.o (fun h=>HOP.o (by first | exact h | cases h)) (fun h=>HSH.o (by first | exact h | cases h)) (by rw[List.length_append,HN.o,HN'.o]) (by omega) HLL.o wE (rdk_own' HO.o)).mono ?_
    rintro e wF ⟨⟨rK,rlo,rhi,rf,rt,ro,rno⟩,hin,hrl,A7,n7,c7,rfl,hl7,hc7,ho7,hb7⟩
    dsimp only at hrl hl7 ho7
    have HIN:=Jh hin
    clear hin
    have hY3:=Blk.below HY.o hb7 HY.o.lt
    have hB3:=below_next BB.o (Jn) hb7
    obtain⟨u0,u1,u2,u3,u4,u5,u6,q0,q1,q2,q3,q4,q5,q6⟩:=blk7 hY3
    have hlY:=hY3.lt
    have HL7:=Jh hl7
    have HC7:=Jh hc7
    have hs7:w.heap.size+2<wE.heap.size:=HY.o.lt
    have HO7:=Jh ho7
    have HB3:=Jh hB3
    clear hb7 hl7 hc7 ho7 hB3 hY3 HX HX2 HO
    go_wp2_with fail
    refine bodyPost_ret (v:=spF rK rlo rhi rf rt ro A7 n7 c7) (by simp[results,Tryz.results89,go_sem,u0,u1,u2,u3,u4,u5,u6]) rfl ?_
    exact⟨⟨rK,rlo,rhi,rf,rt,ro,rno⟩,HIN.o,by show rno.length<=n+n';have:=hrl;omega,A7,n7,c7,rfl,HL7.o,HC7.o,(OwnK.put7 HO7.o (by omega) _ _ _ _ _ _ _).less (by omega),below_put7 HB3.o (by omega) _ _ _ _ _ _ _⟩
   | false=>
    have HTT:Hid (t'=tt):=by show _=_;rw[<-HT.o];rfl
    go_wp2_with fail
    rw[HFF.o,HTT.o]
    clear a0 a1 a2 a3 a4 a5 a6 b0 b1 b2 b3 b4 b5 b6 hlX hlX2
    refine (rtexts_is ff tt false A9 (es++fs) (n+n') c9 HS.o (fun h=>HOP.o (by first | exact h | cases h)) (fun h=>HSH.o (by first | exact h | cases h)) (by rw[List.length_append,HN.o,HN'.o]) (by omega) HLL.o wE (rdk_own' HO.o)).mono ?_
    rintro e wF ⟨⟨rK,rlo,rhi,rf,rt,ro,rno⟩,hin,hrl,A7,n7,c7,rfl,hl7,hc7,ho7,hb7⟩
    dsimp only at hrl hl7 ho7
    have HIN:=Jh hin
    clear hin
    have hY3:=Blk.below HY.o hb7 HY.o.lt
    have hB3:=below_next BB.o (Jn) hb7
    obtain⟨u0,u1,u2,u3,u4,u5,u6,q0,q1,q2,q3,q4,q5,q6⟩:=blk7 hY3
    have hlY:=hY3.lt
    have HL7:=Jh hl7
    have HC7:=Jh hc7
    have hs7:w.heap.size+2<wE.heap.size:=HY.o.lt
    have HO7:=Jh ho7
    have HB3:=Jh hB3
    clear hb7 hl7 hc7 ho7 hB3 hY3 HX HX2 HO
    go_wp2_with fail
    refine bodyPost_ret (v:=spF rK rlo rhi rf rt ro A7 n7 c7) (by simp[results,Tryz.results89,go_sem,u0,u1,u2,u3,u4,u5,u6]) rfl ?_
    exact⟨⟨rK,rlo,rhi,rf,rt,ro,rno⟩,HIN.o,by show rno.length<=n+n';have:=hrl;omega,A7,n7,c7,rfl,HL7.o,HC7.o,(OwnK.put7 HO7.o (by omega) _ _ _ _ _ _ _).less (by omega),below_put7 HB3.o (by omega) _ _ _ _ _ _ _⟩
  | false=>
   cases o' with
   | true=>
    have HTT:Hid (t=tt):=by show _=_;rw[<-HT.o];rfl
    go_wp2_with fail
    rw[HFF.o,HTT.o]
    clear a0 a1 a2 a3 a4 a5 a6 b0 b1 b2 b3 b4 b5 b6 hlX hlX2
    refine (rtexts_is ff tt false A9 (es++fs) (n+n') c9 HS.o (fun h=>HOP.o (by first | exact h | cases h)) (fun h=>HSH.o (by first | exact h | cases h)) (by rw[List.length_append,HN.o,HN'.o]) (by omega) HLL.o wE (rdk_own' HO.o)).mono ?_
    rintro e wF ⟨⟨rK,rlo,rhi,rf,rt,ro,rno⟩,hin,hrl,A7,n7,c7,rfl,hl7,hc7,ho7,hb7⟩
    dsimp only at hrl hl7 ho7
    have HIN:=Jh hin
    clear hin
    have hY3:=Blk.below HY.o hb7 HY.o.lt
    have hB3:=below_next BB.o (Jn) hb7
    obtain⟨u0,u1,u2,u3,u4,u5,u6,q0,q1,q2,q3,q4,q5,q6⟩:=blk7 hY3
    have hlY:=hY3.lt
    have HL7:=Jh hl7
    have HC7:=Jh hc7
    have hs7:w.heap.size+2<wE.heap.size:=HY.o.lt
    have HO7:=Jh ho7
    have HB3:=Jh hB3
    clear hb7 hl7 hc7 ho7 hB3 hY3 HX HX2 HO
    go_wp2_with fail
    refine bodyPost_ret (v:=spF rK rlo rhi rf rt ro A7 n7 c7) (by simp[results,Tryz.results89,go_sem,u0,u1,u2,u3,u4,u5,u6]) rfl ?_
    exact⟨⟨rK,rlo,rhi,rf,rt,ro,rno⟩,HIN.o,by show rno.length<=n+n';have:=hrl;omega,A7,n7,c7,rfl,HL7.o,HC7.o,(OwnK.put7 HO7.o (by omega) _ _ _ _ _ _ _).less (by omega),below_put7 HB3.o (by omega) _ _ _ _ _ _ _⟩
   | false=>
    obtain⟨z2,hz2⟩:∃z,Vals.cmpT t' t=z:=⟨_,rfl⟩
    have HZ2:=Jh hz2
    clear hz2
    go_wp2_with fail
    refine (textG_at t' t hlt' hltt wE).mono ?_
    rintro e wF ⟨rfl,hg⟩
    rw[HZ2.o]
    have hb:=hg.below
    clear hg
    clear a0 a1 a2 a3 a4 a5 a6 b0 b1 b2 b3 b4 b5 b6 hlX hlX2
    replace HX:=Jh (Blk.below HX.o hb HX.o.lt)
    replace HX2:=Jh (Blk.below HX2.o hb HX2.o.lt)
    replace HY:=Jh (Blk.below HY.o hb HY.o.lt)
    replace BB:=Jh (below_next BB.o (Jn) hb)
    replace HO:=Jh (OwnK.below HO.o hb)
    clear hb
    obtain⟨a0,a1,a2,a3,a4,a5,a6,_⟩:=blk7 HX.o
    obtain⟨b0,b1,b2,b3,b4,b5,b6,_⟩:=blk7 HX2.o
    have hlX:=HX.o.lt
    have hlX2:=HX2.o.lt
    cases hl2:bytesLess t' t with
    | true=>
     have u6:decide (z2<0)=true:=decide_eq_true (by rw[<-HZ2.o];exact (cmpT_neg_iff t' t).2 hl2)
     have HTT:Hid (t'=tt):=by show _=_;rw[<-HT.o];show t'=minT t t';unfold minT;rw[if_pos hl2]
     clear hl2
     go_wp2_with fail
     rw[HFF.o,HTT.o]
     clear a0 a1 a2 a3 a4 a5 a6 b0 b1 b2 b3 b4 b5 b6 hlX hlX2
     refine (rtexts_is ff tt false A9 (es++fs) (n+n') c9 HS.o (fun h=>HOP.o (by first | exact h | cases h)) (fun h=>HSH.o (by first | exact h | cases h)) (by rw[List.length_append,HN.o,HN'.o]) (by omega) HLL.o wF (rdk_own' HO.o)).mono ?_
     rintro e wG ⟨⟨rK,rlo,rhi,rf,rt,ro,rno⟩,hin,hrl,A7,n7,c7,rfl,hl7,hc7,ho7,hb7⟩
     dsimp only at hrl hl7 ho7
     have HIN:=Jh hin
     clear hin
     have hY3:=Blk.below HY.o hb7 HY.o.lt
     have hB3:=below_next BB.o (Jn) hb7
     obtain⟨u0,u1,u2,u3,u4,u5,u6,q0,q1,q2,q3,q4,q5,q6⟩:=blk7 hY3
     have hlY:=hY3.lt
     have HL7:=Jh hl7
     have HC7:=Jh hc7
     have hs7:w.heap.size+2<wF.heap.size:=HY.o.lt
     have HO7:=Jh ho7
     have HB3:=Jh hB3
     clear hb7 hl7 hc7 ho7 hB3 hY3 HX HX2 HO
     go_wp2_with fail
     refine bodyPost_ret (v:=spF rK rlo rhi rf rt ro A7 n7 c7) (by simp[results,Tryz.results89,go_sem,u0,u1,u2,u3,u4,u5,u6]) rfl ?_
     exact⟨⟨rK,rlo,rhi,rf,rt,ro,rno⟩,HIN.o,by show rno.length<=n+n';have:=hrl;omega,A7,n7,c7,rfl,HL7.o,HC7.o,(OwnK.put7 HO7.o (by omega) _ _ _ _ _ _ _).less (by omega),below_put7 HB3.o (by omega) _ _ _ _ _ _ _⟩
    | false=>
     have u6:decide (z2<0)=false:=decide_eq_false (by rw[<-HZ2.o];intro h;have:=(cmpT_neg_iff t' t).1 h;rw[hl2] at this;cases this)
     have HTT:Hid (t=tt):=by show _=_;rw[<-HT.o];show t=minT t t';unfold minT;rw[if_neg (by rw[hl2];simp)]
     clear hl2
     go_wp2_with fail
     rw[HFF.o,HTT.o]
     clear a0 a1 a2 a3 a4 a5 a6 b0 b1 b2 b3 b4 b5 b6 hlX hlX2
     refine (rtexts_is ff tt false A9 (es++fs) (n+n') c9 HS.o (fun h=>HOP.o (by first | exact h | cases h)) (fun h=>HSH.o (by first | exact h | cases h)) (by rw[List.length_append,HN.o,HN'.o]) (by omega) HLL.o wF (rdk_own' HO.o)).mono ?_
     rintro e wG ⟨⟨rK,rlo,rhi,rf,rt,ro,rno⟩,hin,hrl,A7,n7,c7,rfl,hl7,hc7,ho7,hb7⟩
     dsimp only at hrl hl7 ho7
     have HIN:=Jh hin
     clear hin
     have hY3:=Blk.below HY.o hb7 HY.o.lt
     have hB3:=below_next BB.o (Jn) hb7
     obtain⟨u0,u1,u2,u3,u4,u5,u6,q0,q1,q2,q3,q4,q5,q6⟩:=blk7 hY3
     have hlY:=hY3.lt
     have HL7:=Jh hl7
     have HC7:=Jh hc7
     have hs7:w.heap.size+2<wF.heap.size:=HY.o.lt
     have HO7:=Jh ho7
     have HB3:=Jh hB3
     clear hb7 hl7 hc7 ho7 hB3 hY3 HX HX2 HO
     go_wp2_with fail
     refine bodyPost_ret (v:=spF rK rlo rhi rf rt ro A7 n7 c7) (by simp[results,Tryz.results89,go_sem,u0,u1,u2,u3,u4,u5,u6]) rfl ?_
     exact⟨⟨rK,rlo,rhi,rf,rt,ro,rno⟩,HIN.o,by show rno.length<=n+n';have:=hrl;omega,A7,n7,c7,rfl,HL7.o,HC7.o,(OwnK.put7 HO7.o (by omega) _ _ _ _ _ _ _).less (by omega),below_put7 HB3.o (by omega) _ _ _ _ _ _ _⟩
theorem rmeet_3 (lo hi:Int) (A:OA) (n c:Nat) (lo' hi':Int) (A':OA) (n' c':Nat) (w:World) (es fs:List Val) (hlow:lowest 3<=max lo lo') (hhigh:min hi hi'<=highest 3) (hl:∀v∈es++fs,v.k=3/\v.t=[]) (hn:es.length=n) (hm:n<=500) (hn':fs.length=n') (hm':n'<=500) (hr:RdW w A es) (hr':RdW w A' fs):
  Calls Tryz.prog 89 #[spF 3 lo hi [] [] false A n c,spF 3 lo' hi' [] [] false A' n' c'] w (GivesS w (IsInts 3 (max lo lo') (min hi hi') (es++fs)) (n+n')):=by
 have HN:=Jh hn
 have HN':=Jh hn'
 have R1:=Jh hr
 have R2:=Jh hr'
 have HLL:=Jh hl
 clear hn hn' hr hr' hl
 have hgr:=gr3 w (.cells (sC 3 lo hi #[] #[] false A n c) 97) (.cells (sC 3 lo' hi' #[] #[] false A' n' c') 97) (.cells zC 97)
 have hX:=((Blk.new w 97 (sC 3 lo hi #[] #[] false A n c)).alloc (.cells (sC 3 lo' hi' #[] #[] false A' n' c') 97)).alloc (.cells zC 97)
 have hX2:=(Blk.new (w.alloc (.cells (sC 3 lo hi #[] #[] false A n c) 97)) 97 (sC 3 lo' hi' #[] #[] false A' n' c')).alloc (.cells zC 97)
 have hY:=Blk.new ((w.alloc (.cells (sC 3 lo hi #[] #[] false A n c) 97)).alloc (.cells (sC 3 lo' hi' #[] #[] false A' n' c') 97)) 97 zC
 rw[show (w.alloc (.cells (sC 3 lo hi #[] #[] false A n c) 97)).heap.size=w.heap.size+1 by simp] at hX2
 rw[show ((w.alloc (.cells (sC 3 lo hi #[] #[] false A n c) 97)).alloc (.cells (sC 3 lo' hi' #[] #[] false A' n' c') 97)).heap.size=w.heap.size+2 by simp] at hY
 have BB:=Jh hgr.below
 have HX:=Jh hX
 have HX2:=Jh hX2
 have HY:=Jh hY
 clear hgr hX hX2 hY
 go_enter Tryz.func89,Tryz.ntmps89
 go_wp2_with fail
 generalize (((w.alloc (.cells (sC 3 lo hi #[] #[] false A n c) 97)).alloc (.cells (sC 3 lo' hi' #[] #[] false A' n' c') 97)).alloc (.cells zC 97))=w0 at *
 have hS0:Blk w0.drew w.heap.size 97 (sC 3 lo hi #[] #[] false A n c)/\Blk w0.drew (w.heap.size+1) 97 (sC 3 lo' hi' #[] #[] false A' n' c'):=⟨HX.o,HX2.o⟩
 refine wp_region_held_drew (S:=fun w'=>Blk w' w.heap.size 97 (sC 3 lo hi #[] #[] false A n c)/\Blk w' (w.heap.size+1) 97 (sC 3 lo' hi' #[] #[] false A' n' c')) (by kernel_rfl) hS0 (fun _=>?_)
 refine Jz 1 hS0 ?_
 refine Jz 2 hS0 ?_
 refine Jz 4 hS0 ?_
 refine Jz 5 hS0 ?_
 have HX':=Jh (Blk.below HX.o (show Below w0.heap.size w0 w0.drew from (Below.refl _ _).drew) HX.o.lt)
 have HX2':=Jh (Blk.below HX2.o (show Below w0.heap.size w0 w0.drew from (Below.refl _ _).drew) HX2.o.lt)
 have HY':=Jh (Blk.below HY.o (show Below w0.heap.size w0 w0.drew from (Below.refl _ _).drew) HY.o.lt)
 have BB':=Jh BB.o.drew
 clear hS0 HX HX2 HY BB
 have HX:=HX'
 clear HX'
 have HX2:=HX2'
 clear HX2'
 have HY:=HY'
 clear HY'
 have BB:=BB'
 clear BB'
 generalize w0.drew=wA at *
 refine Je 0 (fun K hK=>?_)
 go_simp
 have hO0:OwnW (wA.alloc (.cells #[] 52)) wA.heap.size (.slice (some ⟨wA.heap.size,0,none⟩) 0 0) []:=OwnK.empty wA wA.heap.size (Jn)
 have hb:Below wA.heap.size wA (wA.alloc (.cells #[] 52)):=(gr1 wA _).below
 have hs6:=hb.size
 have hB7:w.heap.size<=wA.heap.size:=BB.o.size
 have hlX:=HX.o.lt
 have hlX2:=HX2.o.lt
 have hlY:=HY.o.lt
 replace HX:=Jh (Blk.below HX.o hb HX.o.lt)
 replace HX2:=Jh (Blk.below HX2.o hb HX2.o.lt)
 replace HY:=Jh (Blk.below HY.o hb HY.o.lt)
 replace BB:=Jh (below_next BB.o (Jn) hb)
 clear hb
 generalize (wA.alloc (.cells #[] 52))=wB at *
 refine hK.o _ _ ⟨HX.o,HX2.o⟩ ?_
 clear hK
 generalize wA.heap.size=B7 at *
 have HN0:Hid ((es:List Val).length=n):=HN
 refine Je 3 (fun K hK=>?_)
 refine op_append_k layV (.tmp 27) (.tmp 29) 95 underV (by rfl) B7 _ ([]) (by rfl) hO0 A (es) (n) (c) (by rfl) (RdK.below R1.o BB.o) HN.o (by rw[maxLen_num];simp;omega) (by simp only[layV];simp;omega) hs6 ?_
 intro v3 wC o7 hbx
 have hb7:Below B7 wB wC:=hbx wB (Below.refl _ _)
 clear hbx
 replace HX:=Jh (Blk.below HX.o hb7 (by omega))
 replace HX2:=Jh (Blk.below HX2.o hb7 (by omega))
 replace HY:=Jh (Blk.below HY.o hb7 (by omega))
 replace BB:=Jh (BB.o.trans (hb7.mono (by omega)))
 replace hs6:=Nat.le_trans hs6 hb7.size
 clear hb7
 rw[List.nil_append] at o7
 obtain⟨A7,c7,hv7,hc7,_⟩:=OwnK.form o7 HN.o
 subst hv7
 refine hK.o _ _ ⟨HX.o,HX2.o⟩ ?_
 clear hK hO0
 simp only[Act.put,zu0,zu1,zu2]
 refine Je 6 (fun K hK=>?_)
 refine op_append_k layV (.tmp 30) (.tmp 32) 95 underV (by rfl) B7 _ (es) (by rfl) o7 A' (fs) (n') (c') (by rfl) (RdK.below R2.o BB.o) HN'.o (by rw[maxLen_num];rw[HN.o];omega) (by simp only[layV];rw[HN.o];omega) hs6 ?_
 intro v6 wD o9 hbx
 have hb7:Below B7 wC wD:=hbx wC (Below.refl _ _)
 clear hbx
 replace HX:=Jh (Blk.below HX.o hb7 (by omega))
 replace HX2:=Jh (Blk.below HX2.o hb7 (by omega))
 replace HY:=Jh (Blk.below HY.o hb7 (by omega))
 replace BB:=Jh (BB.o.trans (hb7.mono (by omega)))
 replace hs6:=Nat.le_trans hs6 hb7.size
 clear hb7
 obtain⟨A9,c9,hv9,hc9,_⟩:=OwnK.form o9 (n:=n+n') (by rw[List.length_append,HN.o,HN'.o])
 subst hv9
 have HO:=Jh o9
 clear o9 o7 HN0
 refine hK.o _ _ ⟨HX.o,HX2.o⟩ ?_
 clear hK
 simp only[Act.put,zu0,zu1,zu2]
 refine Jz 7 ⟨HX.o,HX2.o⟩ ?_
 refine Jd ?_
 clear hs6 hlX hlX2 hlY
 obtain⟨a0,a1,a2,a3,a4,a5,a6,_⟩:=blk7 HX.o
 obtain⟨b0,b1,b2,b3,b4,b5,b6,_⟩:=blk7 HX2.o
 have hlX:=HX.o.lt
 have hlX2:=HX2.o.lt
 go_wp2_with fail
 clear a0 a1 a2 a3 a4 a5 a6 b0 b1 b2 b3 b4 b5 b6 hlX hlX2
 refine (rints_at 3 (max lo lo') (min hi hi') A9 (es++fs) (n+n') c9 (by decide) hlow hhigh (by rw[List.length_append,HN.o,HN'.o]) (by omega) HLL.o wD (rdk_own' HO.o)).mono ?_
 rintro e wE ⟨⟨rK,rlo,rhi,rf,rt,ro,rno⟩,hin,hrl,A7,n7,c7,rfl,hl7,hc7,ho7,hb7⟩
 dsimp only at hrl hl7 ho7
 have HIN:=Jh hin
 clear hin
 have hY3:=Blk.below HY.o hb7 HY.o.lt
 have hB3:=below_next BB.o (Jn) hb7
 obtain⟨u0,u1,u2,u3,u4,u5,u6,q0,q1,q2,q3,q4,q5,q6⟩:=blk7 hY3
 have hlY:=hY3.lt
 have HL7:=Jh hl7
 have HC7:=Jh hc7
 have hs7:w.heap.size+2<wD.heap.size:=HY.o.lt
 have HO7:=Jh ho7
 have HB3:=Jh hB3
 clear hb7 hl7 hc7 ho7 hB3 hY3 HX HX2 HO
 go_wp2_with fail
 refine bodyPost_ret (v:=spF rK rlo rhi rf rt ro A7 n7 c7) (by simp[results,Tryz.results89,go_sem,u0,u1,u2,u3,u4,u5,u6]) rfl ?_
 exact⟨⟨rK,rlo,rhi,rf,rt,ro,rno⟩,HIN.o,by show rno.length<=n+n';have:=hrl;omega,A7,n7,c7,rfl,HL7.o,HC7.o,(OwnK.put7 HO7.o (by omega) _ _ _ _ _ _ _).less (by omega),below_put7 HB3.o (by omega) _ _ _ _ _ _ _⟩
theorem rmeet_at (base:Nat) (a b:Sp) (ha:Canon a) (hb:Canon b) (A:OA) (n c:Nat) (A':OA) (n' c':Nat) (w:World) (hn:a.no.length=n) (hm:n<=500) (hn':b.no.length=n') (hm':n'<=500) (hbase:base<=w.heap.size) (hc:n<=c) (hc':n'<=c') (ho:OwnW w base (.slice A n c) a.no) (ho':OwnW w base (.slice A' n' c') b.no):
  Calls Tryz.prog 89 #[spF a.kind a.lo a.hi a.frm a.to_ a.opn A n c,spF b.kind b.lo b.hi b.frm b.to_ b.opn A' n' c'] w (fun e w'=>∃r,IsMeet a b r/\r.no.length<=a.no.length+b.no.length/\GivesB base w r e w'):=by
 have hr:=rdk_own' ho
 have hr':=rdk_own' ho'
 by_cases h4:a.kind=4
 ·have e:=kind_any ha h4
  subst e
  refine (rmeet_left 0 0 [] [] false A n c b.kind b.lo b.hi b.frm b.to_ b.opn A' n' c' w).mono ?_
  rintro e w' ⟨rfl,hbw⟩
  exact⟨b,(meet_any hb).2,by omega,A',n',c',rfl,hn',hc',OwnK.below ho' hbw,hbw⟩
 by_cases h4':b.kind=4
 ·have e:=kind_any hb h4'
  subst e
  refine (rmeet_right a.kind a.lo a.hi a.frm a.to_ a.opn A n c 0 0 [] [] false A' n' c' w h4).mono ?_
  rintro e w' ⟨rfl,hbw⟩
  exact⟨a,(meet_any ha).1,by omega,A,n,c,rfl,hn,hc,OwnK.below ho hbw,hbw⟩
 by_cases hk:a.kind=b.kind
 ·rcases ha with rfl | rfl | ha | ha
  ·have e:b=none_:=kind_none hb hk.symm
   subst e
   refine (rmeet_none 0 0 [] [] false A n c 0 0 [] [] false A' n' c' w).mono ?_
   rintro e w' ⟨rfl,hbw⟩
   exact⟨none_,meet_none _ _ (.inl rfl),by simp[none_],none,0,0,rfl,rfl,Jn,OwnK.none_ _ _,hbw⟩
  ·exact absurd rfl h4
  ·have hb':CanonN b:=by
    rcases hb with rfl|rfl|hb|hb
    ·exact absurd hk (N_not4 ha).2.2
    ·exact absurd hk h4
    ·exact hb
    ·exact absurd (hk.trans hb.kind) (N_not4 ha).2.1
   obtain⟨K,lo,hi,f,t,o,no⟩:=a
   obtain⟨K',lo',hi',f',t',o',no'⟩:=b
   have e1:f=[]:=ha.frm
   have e2:t=[]:=ha.to_
   have e3:o=false:=ha.opn
   have e4:f'=[]:=hb'.frm
   have e5:t'=[]:=hb'.to_
   have e6:o'=false:=hb'.opn
   have e7:K=K':=hk
   subst e1;subst e2;subst e3;subst e4;subst e5;subst e6;subst e7
   have hlow:lowest K<=max lo lo':=Int.le_trans ha.low (Int.le_max_left _ _)
   have hhigh:min hi hi'<=highest K:=Int.le_trans (Int.min_le_left _ _) ha.high
   have hl:∀v∈no++no',v.k=K/\v.t=[]:=fun v hv=>by
    rcases List.mem_append.1 hv with h|h
    ·exact⟨(ha.no v h).1,(ha.no v h).2.1⟩
    ·exact⟨(hb'.no v h).1,(hb'.no v h).2.1⟩
   have hfin:∀r,IsInts K (max lo lo') (min hi hi') (no++no') r->IsMeet ⟨K,lo,hi,[],[],false,no⟩ ⟨K,lo',hi',[],[],false,no'⟩ r:=fun r h=>
    meet_N ha hb' rfl (fun x=>by show max lo lo'<=x↔lo<=x/\lo'<=x;omega) (fun x=>by show x<=min hi hi'↔x<=hi/\x<=hi';omega) (fun v=>List.mem_append) h
   have hkk:K=1∨K=3:=ha.kind
   rcases hkk with rfl|rfl
   ·refine (rmeet_1 lo hi A n c lo' hi' A' n' c' w no no' hlow hhigh hl hn hm hn' hm' hr hr').mono ?_
    rintro e w' ⟨r,hi,hl,h⟩
    exact⟨r,hfin r hi,by show r.no.length<=no.length+no'.length;dsimp only at hn hn';omega,h.b hbase⟩
   ·refine (rmeet_3 lo hi A n c lo' hi' A' n' c' w no no' hlow hhigh hl hn hm hn' hm' hr hr').mono ?_
    rintro e w' ⟨r,hi,hl,h⟩
    exact⟨r,hfin r hi,by show r.no.length<=no.length+no'.length;dsimp only at hn hn';omega,h.b hbase⟩
  ·have hb':CanonT b:=by
    rcases hb with rfl|rfl|hb|hb
    ·exact absurd hk (T_not4 ha).2
    ·exact absurd hk h4
    ·exact absurd (hk.symm.trans ha.kind) (N_not4 hb).2.1
    ·exact hb
   have bda:=canon_bd (.inr (.inr (.inr ha)))
   have bdb:=canon_bd (.inr (.inr (.inr hb')))
   obtain⟨K,lo,hi,f,t,o,no⟩:=a
   obtain⟨K',lo',hi',f',t',o',no'⟩:=b
   have e1:lo=0:=ha.lo
   have e2:hi=0:=ha.hi
   have e3:lo'=0:=hb'.lo
   have e4:hi'=0:=hb'.hi
   have e5:K=2:=ha.kind
   have e6:K'=2:=hb'.kind
   subst e1;subst e2;subst e3;subst e4;subst e5;subst e6
   have hl:∀v∈no++no',v.k=2/\v.i=0/\v.t.length<=32:=fun v hv=>by
    rcases List.mem_append.1 hv with h|h
    ·exact⟨(ha.no v h).1,(ha.no v h).2.1,(ha.no v h).2.2.1⟩
    ·exact⟨(hb'.no v h).1,(hb'.no v h).2.1,(hb'.no v h).2.2.1⟩
   have i1:o=true->t=[]:=ha.isOpn
   have i2:o'=true->t'=[]:=hb'.isOpn
   have s1:o=false->Short t:=fun h=>(ha.shut h).1
   have s2:o'=false->Short t':=fun h=>(hb'.shut h).1
   dsimp only at bda bdb
   refine (rmeet_2 f t o A n c f' t' o' A' n' c' w no no' _ rfl _ rfl (maxT_short ha.flen hb'.flen) ?_ ?_ (by omega) (by omega) (by omega) (by omega) hl hn hm hn' hm' hr hr').mono ?_
   ·intro h
    cases o<;>cases o'<;>simp at h
    exact i2 rfl
   ·intro h
    cases o<;>cases o'<;>simp at h
    ·exact minT_short (s1 rfl) (s2 rfl)
    ·exact s1 rfl
    ·exact s2 rfl
   ·rintro e w' ⟨r,hi,hl,h⟩
    refine ⟨r,meet_T ha hb' (fun x=>maxT_le f f' x) (fun x=>?_) (fun v=>List.mem_append) hi,by show r.no.length<=no.length+no'.length;dsimp only at hn hn';omega,h.b hbase⟩
    show _↔(o=true∨bytesLess x t=true)/\(o'=true∨bytesLess x t'=true)
    cases o<;>cases o'<;>simp
    exact minT_lt t t' x
 ·refine (rmeet_unlike a.kind a.lo a.hi a.frm a.to_ a.opn A n c b.kind b.lo b.hi b.frm b.to_ b.opn A' n' c' w h4 h4' hk).mono ?_
  rintro e w' ⟨rfl,hbw⟩
  exact⟨none_,meet_kinds h4 h4' hk,by simp[none_],none,0,0,rfl,rfl,Jn,OwnK.none_ _ _,hbw⟩
end
end Go.Proofs.YtnfigjggjmncdaaGreat
