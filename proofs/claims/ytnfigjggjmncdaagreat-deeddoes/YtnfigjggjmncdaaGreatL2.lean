/- Contracts. -/
import Derived.Deep.LoopGhost
import Derived.Test.YtnfigjggjmncdaaGreatM1
import Derived.Test.YtnfigjggjmncdaaGreatD0
import Derived.Test.YtnfigjggjmncdaaGreatD3
import Derived.Test.YtnfigjggjmncdaaGreatF3
import Derived.Test.YtnfigjggjmncdaaGreatL1
set_option maxRecDepth 100000
set_option maxHeartbeats 4000000
namespace Go.Proofs.YtnfigjggjmncdaaGreat
section
open Go.RowKit Go.Sort Spans Op
end
section
open Go.RowKit
theorem rpput_wrong (A:OA) (bs:LU) (n cap:Nat) (nm:LU) (o k i:Int) (t:LU) (hn:bs.length=n) (hl:n+400<=140737488355328) (hnm:nm.length<=9223372036854775807) (ht:t.length<=9223372036854775807) (w:World) (hr:Rd w A bs) (hw:Preds.right nm o k i t=false):
  Calls Tryz.prog 65 #[.slice A n cap,.agg (pC nm.toArray o k i t.toArray)] w (LaysR w bs n):=by
 have HW:=Jh hw
 clear hw
 obtain⟨i0,hi0,hz0,hz1,hz2⟩:=info_parts byte_info
 have HN:=Jh hn
 clear hn
 obtain⟨hP,hb0⟩:=box5 w 54 (.string ⟨nm.toArray⟩) (.int .i64 o) (.int .i64 k) (.int .i64 i) (.string ⟨t.toArray⟩)
 have hsz:(w.alloc (.cells (pC nm.toArray o k i t.toArray) 54)).heap.size=w.heap.size+1:=by simp
 have hr2:=(hr.below hb0).below ((Below.refl _ _).alloc (Jn) (.cells #[] 5))
 have hO0:=Own.empty (w.alloc (.cells (pC nm.toArray o k i t.toArray) 54)) (w.heap.size+1) 5 (Nat.le_of_eq hsz.symm)
 rw[hsz] at hO0
 have hbe:Below (w.heap.size+1) (w.alloc (.cells (pC nm.toArray o k i t.toArray) 54)) ((w.alloc (.cells (pC nm.toArray o k i t.toArray) 54)).alloc (.cells #[] 5)):=(Below.refl _ _).alloc (Nat.le_of_eq hsz.symm) _
 go_enter Tryz.func65,Tryz.ntmps65
 go_wp2_with (at_builtin;refine wpList_append_rd rfl (.tmp 6) (.tmp 7) 29 rfl (w.heap.size+1) 5 i0 Tryz.underlying29 hi0 hz0 hz1 hz2 _ [] (by rfl) hO0 A bs n cap (by rfl) hr2 HN.o (by simp;omega) (by simp) ?_;intro v1 w1 hO1 hb1' _ _;have hb1:=hb1' _ hbe;clear hb1';have hP1:=hP.below hb1 (Nat.lt_succ_self _);obtain⟨c0,c1,c2,c3,c4,_,_,_,_,_⟩:=blk5 hP1)
 rw[List.nil_append] at hO1
 have hbw:Below w.heap.size w w1:=hb0.trans (hb1.mono (Nat.le_succ _))
 have hs1:w.heap.size+1<=w1.heap.size:=by have:=hb1.size;omega
 clear hO0 hr2 hbe hP hb0 hb1
 refine (rpright_is nm o k i t w1 hnm ht false HW.o).mono ?_
 rintro e w2 ⟨rfl,hb2⟩
 replace hO1:=hO1.below hb2
 obtain⟨D,c,hv,hc,hr2⟩:=hO1.rd
 rw[HN.o] at hv
 subst hv
 clear c0 c1 c2 c3 c4
 go_wp2_with fail
 go_ret
 exact⟨D,c,rfl,below_next hbw (Jn) hb2,hr2⟩
section
variable {P:Program} {md:Region.Mode} {ops:Array Oper} {Q:Exit->Act->World->Prop} {S:World->Prop}
theorem wpAnyH_two {i j:Nat} {oi oj:Oper} {fuel:Nat} {listed:Array Bool} {a:Act} {w:World} (hr:Region.ready md ops listed=[i,j]) (hi:ops.toList[i]?=some oi) (hj:ops.toList[j]?=some oj)
  (hw:Region.wanted oi (yielded ops a.tmps)=true) (hw':Region.wanted oj (yielded ops a.tmps)=true)
  (h:∀K:Act->World->Prop,Hid (∀a w,S w->wpAnyH P md ops Q S fuel (listed.setIfInBounds i true) a w->K a w)->Oper.wp P oi a w K Q)
  (h':∀K:Act->World->Prop,Hid (∀a w,S w->wpAnyH P md ops Q S fuel (listed.setIfInBounds j true) a w->K a w)->Oper.wp P oj a w K Q):wpAnyH P md ops Q S (fuel+1) listed a w:=by
 refine wpAnyH_ready hr (by simp) (AllReadyH.cons (by simpa using hi) (fun K hK=>?_) (AllReadyH.cons (by simpa using hj) (fun K hK=>?_) AllReadyH.nil))
 ·rw[if_pos hw]
  exact h K (fun a w hS hW=>hK.out a w hS (fun _=>hW))
 ·rw[if_pos hw']
  exact h' K (fun a w hS hW=>hK.out a w hS (fun _=>hW))
end
theorem rpput_so (A:OA) (bs:LU) (n cap L1 L:Nat) (nm:LU) (q:Nat) (k i:Int) (t:LU) (hn:bs.length=n) (hL1:n+(Wire.text nm).length+1=L1) (hq:q<=8) (hL:L1+(Vals.lay k i t).length=L) (hl:n+400<=140737488355328) (hnl:nm.length<=16) (h1:-9223372036854775808<=i) (h2:i<=9223372036854775807)
  (hnm:nm.length<=9223372036854775807) (ht:t.length<=9223372036854775807) (w:World) (hr:Rd w A bs) (hw:Preds.right nm (q:Int) k i t=true):
  Calls Tryz.prog 65 #[.slice A n cap,.agg (pC nm.toArray (q:Int) k i t.toArray)] w (LaysR w (bs++(Wire.text nm++(Wire.put q++Vals.lay k i t))) L):=by
 have HW:=Jh hw
 have HL:=Jh hL
 have hl1:L1+200<=140737488355328:=by
  have:=Wire.put_len_le nm.length (by omega)
  have e:(Wire.text nm).length=(Wire.put nm.length).length+nm.length:=by simp[Wire.text]
  omega
 have HL1:=Jh hL1
 have HP:=Jh (Wire.put_lo q (by omega))
 have hqi:(q:Int)<=255:=by omega
 have HB:Hid ((q:Int)=(((UInt8.ofNat q).toNat:Nat):Int)):=byte_of q (by omega)
 have HX:Hid ((bs++Wire.text nm).length+1<=140737488355328):=by show _<=_;rw[List.length_append,hn];omega
 have HY:Hid ((bs++Wire.text nm++Wire.put q).length=L1):=by show _=_;rw[HP.o,List.length_append,List.length_append,hn];simpa using hL1
 clear hw hL hL1 hq
 obtain⟨i0,hi0,hz0,hz1,hz2⟩:=info_parts byte_info
 have HN:=Jh hn
 clear hn
 obtain⟨hP,hb0⟩:=box5 w 54 (.string ⟨nm.toArray⟩) (.int .i64 (q:Int)) (.int .i64 k) (.int .i64 i) (.string ⟨t.toArray⟩)
 have hsz:(w.alloc (.cells (pC nm.toArray (q:Int) k i t.toArray) 54)).heap.size=w.heap.size+1:=by simp
 have hr2:=(hr.below hb0).below ((Below.refl _ _).alloc (Jn) (.cells #[] 5))
 have hO0:=Own.empty (w.alloc (.cells (pC nm.toArray (q:Int) k i t.toArray) 54)) (w.heap.size+1) 5 (Nat.le_of_eq hsz.symm)
 rw[hsz] at hO0
 have hbe:Below (w.heap.size+1) (w.alloc (.cells (pC nm.toArray (q:Int) k i t.toArray) 54)) ((w.alloc (.cells (pC nm.toArray (q:Int) k i t.toArray) 54)).alloc (.cells #[] 5)):=(Below.refl _ _).alloc (Nat.le_of_eq hsz.symm) _
 go_enter Tryz.func65,Tryz.ntmps65
 go_wp2_with (at_builtin;refine wpList_append_rd rfl (.tmp 6) (.tmp 7) 29 rfl (w.heap.size+1) 5 i0 Tryz.underlying29 hi0 hz0 hz1 hz2 _ [] (by rfl) hO0 A bs n cap (by rfl) hr2 HN.o (by simp;omega) (by simp) ?_;intro v1 w1 hO1 hb1' _ _;have hb1:=hb1' _ hbe;clear hb1';have hP1:=hP.below hb1 (Nat.lt_succ_self _);obtain⟨c0,c1,c2,c3,c4,_,_,_,_,_⟩:=blk5 hP1)
 rw[List.nil_append] at hO1
 have hbw:Below w.heap.size w w1:=hb0.trans (hb1.mono (Nat.le_succ _))
 have hs1:w.heap.size+1<=w1.heap.size:=by have:=hb1.size;omega
 clear hO0 hr2 hbe hP hb0 hb1
 refine (rpright_is nm (q:Int) k i t w1 hnm ht true HW.o).mono ?_
 rintro e w2 ⟨rfl,hb2⟩
 replace hO1:=hO1.below hb2
 obtain⟨D,c,hv,hc,hr2⟩:=hO1.rd
 rw[HN.o] at hv
 subst hv
 clear c0 c1 c2 c3 c4
 have hP2:=hP1.below hb2 hP1.lt
 have hb2w:=below_next hbw (Jn) hb2
 clear hP1 hbw hs1 hb2 hO1 hr
 go_wp2_with fail
 have hkeep:Hid (∀w',Below w2.heap.size w2 w'->Below w2.heap.size w2 w'/\w'.cell? ⟨w.heap.size,0,none⟩=some (.string ⟨nm.toArray⟩)/\w'.cell? ⟨w.heap.size,1,none⟩=some (.int .i64 (q:Int))/\w'.cell? ⟨w.heap.size,2,none⟩=some (.int .i64 k)/\w'.cell? ⟨w.heap.size,3,none⟩=some (.int .i64 i)/\w'.cell? ⟨w.heap.size,4,none⟩=some (.string ⟨t.toArray⟩)):=fun w' h=>⟨h,(hP2.below h hP2.lt).cell 0,(hP2.below h hP2.lt).cell 1,(hP2.below h hP2.lt).cell 2,(hP2.below h hP2.lt).cell 3,(hP2.below h hP2.lt).cell 4⟩
 have hS0:=hkeep.o w2.drew (Below.refl _ _).drew
 refine wp_region_held_drew (S:=fun w'=>Below w2.heap.size w2 w'/\w'.cell? ⟨w.heap.size,0,none⟩=some (.string ⟨nm.toArray⟩)/\w'.cell? ⟨w.heap.size,1,none⟩=some (.int .i64 (q:Int))/\w'.cell? ⟨w.heap.size,2,none⟩=some (.int .i64 k)/\w'.cell? ⟨w.heap.size,3,none⟩=some (.int .i64 i)/\w'.cell? ⟨w.heap.size,4,none⟩=some (.string ⟨t.toArray⟩)) (by kernel_rfl) hS0 (fun _=>?_)
 refine Jz 0 hS0 ?_
 refine Jz 1 hS0 ?_
 refine Jz 2 hS0 ?_
 refine Jz 4 hS0 ?_
 refine Jz 5 hS0 ?_
 refine wpAnyH_yes (i:=6) (d:=19) (v:=.int .u8 (q:Int)) rfl rfl (by kernel_rfl) (by kernel_rfl) (by kernel_rfl) (fun _ _ _ h=>h) (by rfl) ?_ hS0 ?_
 ·intro w' hSw
  go_simp
  all_goals first | rfl | (rw[IntKind.wrap_u8];omega)
 simp only[Act.put,zu0,zu1,zu2]
 refine wpAnyH_two (i:=3) (j:=7) (by kernel_rfl) rfl rfl (by rfl) (by rfl) (fun Ka hKa=>?_) (fun Kb hKb=>?_)
 ·go_simp
  with_reducible refine (refPutText_own D bs nm n c nm.length HN.o rfl (by omega) _ (hr2.below hS0.1)).mono ?_
  rintro e w3 ⟨v3,rfl,hO3,hb3⟩
  have hS1:=hkeep.o _ (below_next hS0.1 (Jn) hb3)
  go_wp2_with fail
  refine hKa.o _ _ hS1 ?_
  refine Je 7 (fun K hKc=>?_)
  go_simp
  have hb4:Below w3.heap.size w3 (w3.alloc (.cells #[.int .u8 (q:Int)] 5)):=(Below.refl _ _).alloc (Jn) _
  have hrx:=rd_const w3 5 (0,0) #[.int .u8 (q:Int)] [UInt8.ofNat q] (by rw[HB.o];rfl)
  have hO4:=hO3.below hb4
  have hS2:=hkeep.o _ (below_next hS1.1 (Jn) hb4)
  have hbs:w2.heap.size<=(w3.alloc (.cells #[.int .u8 (q:Int)] 5)).heap.size:=hS2.1.size
  refine hKc.o _ _ hS2 ?_
  refine Je 8 (fun K hKd=>?_)
  refine op_append_rd (.tmp 16) (.tmp 20) 29 rfl w2.heap.size 5 i0 Tryz.underlying29 hi0 hz0 hz1 hz2 v3 (bs++Wire.text nm) (by rfl) hO4 (some ⟨w3.heap.size,0,none⟩) [UInt8.ofNat q] 1 1 (by rfl) hrx rfl HX.o hbs ?_
  intro v6 w6 hO6 hb6'
  have hb6:=hb6' w2 hS2.1
  rw[<-HP.o] at hO6
  have hS3:=hkeep.o w6 hb6
  obtain⟨D6,c6,hv6,hc6,hr6⟩:=hO6.rd
  rw[HY.o] at hv6
  subst hv6
  refine hKd.o _ _ hS3 ?_
  simp only[Act.put,zu0,zu1,zu2]
  refine Jz 9 hS3 ?_
  refine Jd ?_
  have hbl:=below_next hb2w (Jn) hS3.1
  obtain⟨_,c0,c1,c2,c3,c4⟩:=hS3
  go_wp2_with fail
  refine (rvput_at D6 (bs++Wire.text nm++Wire.put q) L1 c6 L k i t HY.o HL.o hl1 h1 h2 ht w6 hr6).mono ?_
  rintro e w7 ⟨D7,c7,rfl,hb7,hr7⟩
  rw[List.append_assoc,List.append_assoc] at hr7
  clear c0 c1 c2 c3 c4
  go_wp2_with fail
  go_ret
  exact⟨D7,c7,rfl,below_next hbl (Jn) hb7,hr7⟩
 ·go_simp
  have hbn:Below w2.heap.size w2 (w2.alloc (.cells #[.int .u8 (q:Int)] 5)).drew:=((Below.refl _ _).alloc (Jn) _).drew
  have hrx:Rd (w2.alloc (.cells #[.int .u8 (q:Int)] 5)).drew (some ⟨w2.heap.size,0,none⟩) [UInt8.ofNat q]:=rd_const w2 5 (0,0) #[.int .u8 (q:Int)] [UInt8.ofNat q] (by rw[HB.o];rfl)
  have hwl:w2.heap.size<=(w2.alloc (.cells #[.int .u8 (q:Int)] 5)).drew.heap.size:=hbn.size
  generalize (w2.alloc (.cells #[.int .u8 (q:Int)] 5)).drew=w3 at *
  have hS1:=hkeep.o w3 hbn
  refine hKb.o _ _ hS1 ?_
  refine Je 3 (fun K hKc=>?_)
  go_simp
  with_reducible refine (refPutText_own D bs nm n c nm.length HN.o rfl (by omega) _ (hr2.below hS1.1)).mono ?_
  rintro e w4 ⟨v3,rfl,hO3,hb3⟩
  have hS2:=hkeep.o _ (below_next hS1.1 (Jn) hb3)
  go_wp2_with fail
  refine hKc.o _ _ hS2 ?_
  refine Je 8 (fun K hKd=>?_)
  refine op_append_rd (.tmp 16) (.tmp 20) 29 rfl w3.heap.size 5 i0 Tryz.underlying29 hi0 hz0 hz1 hz2 v3 (bs++Wire.text nm) (by rfl) hO3 (some ⟨w2.heap.size,0,none⟩) [UInt8.ofNat q] 1 1 (by rfl) (hrx.below hb3) rfl HX.o hb3.size ?_
  intro v6 w6 hO6 hb6'
  have hb6:=below_next hS1.1 (Jn) (hb6' w3 hb3)
  rw[<-HP.o] at hO6
  have hS3:=hkeep.o w6 hb6
  obtain⟨D6,c6,hv6,hc6,hr6⟩:=hO6.rd
  rw[HY.o] at hv6
  subst hv6
  refine hKd.o _ _ hS3 ?_
  simp only[Act.put,zu0,zu1,zu2]
  refine Jz 9 hS3 ?_
  refine Jd ?_
  have hbl:=below_next hb2w (Jn) hS3.1
  obtain⟨_,c0,c1,c2,c3,c4⟩:=hS3
  go_wp2_with fail
  refine (rvput_at D6 (bs++Wire.text nm++Wire.put q) L1 c6 L k i t HY.o HL.o hl1 h1 h2 ht w6 hr6).mono ?_
  rintro e w7 ⟨D7,c7,rfl,hb7,hr7⟩
  rw[List.append_assoc,List.append_assoc] at hr7
  clear c0 c1 c2 c3 c4
  go_wp2_with fail
  go_ret
  exact⟨D7,c7,rfl,below_next hbl (Jn) hb7,hr7⟩
theorem lay_zero:Vals.lay 0 0 []=[]:=rfl
theorem rpput_at (A:OA) (bs:LU) (n cap L:Nat) (nm:LU) (o k i:Int) (t:LU) (hn:bs.length=n) (hL:n+(Preds.lay nm o k i t).length=L) (hl:n+400<=140737488355328) (h1:-9223372036854775808<=i) (h2:i<=9223372036854775807) (hnm:nm.length<=9223372036854775807) (ht:t.length<=9223372036854775807) (w:World) (hr:Rd w A bs):
  Calls Tryz.prog 65 #[.slice A n cap,.agg (pC nm.toArray o k i t.toArray)] w (LaysR w (bs++Preds.lay nm o k i t) L):=by
 cases h:Preds.right nm o k i t with
 | false=>
  have e:Preds.lay nm o k i t=[]:=by unfold Preds.lay;rw[h];rfl
  rw[e] at hL ⊢
  rw[List.append_nil]
  simp only[List.length_nil,Nat.add_zero] at hL
  subst hL
  exact rpput_wrong A bs n cap nm o k i t hn hl hnm ht w hr h
 | true=>
  obtain⟨a1,a2,ha⟩:=Preds.right_parts h
  have ho:0<=o/\o<=8:=by rcases Preds.asks_cases ha with ⟨rfl,_⟩ | ⟨_,b1,b2,_⟩<;>omega
  obtain⟨q,rfl⟩:=Int.eq_ofNat_of_zero_le ho.1
  have e:Preds.lay nm (q:Int) k i t=Wire.text nm++(Wire.put q++Vals.lay k i t):=by
   unfold Preds.lay
   rw[if_pos h]
   unfold Preds.bytes
   rw[Int.toNat_natCast]
   rcases Preds.asks_cases ha with ⟨h8,rfl,rfl,rfl⟩|⟨h8,_⟩
   ·rw[if_pos h8,lay_zero]
   ·rw[if_neg h8]
  rw[e] at hL ⊢
  have hp:(Wire.put q).length=1:=by rw[Wire.put_lo q (by omega)];rfl
  refine rpput_so A bs n cap (n+(Wire.text nm).length+1) L nm q k i t hn rfl (by omega) ?_ hl a2 h1 h2 hnm ht w hr h
  rw[<-hL];simp only[List.length_append];omega
end
section
open Go.RowKit Go.Sort Spans Op
theorem rfput_at (B:OA) (bs:LU) (m d:Nat) (hbs:bs.length=m) (hmb:m<=1000) (A:OA) (f:List Pr) (n c:Nat) (hn:f.length=n) (hm:n<=100) (hl:PBd f) (w:World) (hrb:Rd w B bs) (hr:RdQ w A f):
  Calls Tryz.prog 34 #[.slice B m d,.slice A n c] w fun e w'=>∃fs,FLaid f fs/\fs.length<=8000/\LaysR w (bs++fs) (m+fs.length) e w':=by
 have HN:=Jh hn
 have HLL:=Jh hl
 have HR:=Jh hr
 have HBS:=Jh hbs
 have HRB:=Jh hrb
 obtain⟨q,hq⟩:∃q:Bool,(q=true↔Fil.NormIs f f 0):=(Classical.em (Fil.NormIs f f 0)).elim (fun h=>⟨true,fun _=>h,fun _=>rfl⟩) (fun h=>⟨false,fun k=>(by cases k),fun k=>absurd k h⟩)
 have HQ:=Jh hq
 clear hn hl hr hbs hrb hq
 obtain⟨i0,hi0,hz0,hz1,hz2⟩:=info_parts byte_info
 go_enter Tryz.func34,Tryz.ntmps34
 go_wp2_with fail
 refine (rfright_at A f n c HN.o hm HLL.o w HR.o q HQ.o).mono ?_
 rintro e w1 ⟨rfl,hb⟩
 have BB:=Jh hb
 clear hb
 cases q with
 | false=>
  have HNO:Hid (¬Fil.NormIs f f 0):=fun h=>by have:=HQ.o.2 h;cases this
  have hO0:=Own.empty w1 w1.heap.size 5 (Jn)
  have hb0:Below w1.heap.size w1 (w1.alloc (.cells #[] 5)):=(gr1 w1 _).below
  have hr2:=(HRB.o.below BB.o).below hb0
  have hs0:=hb0.size
  go_wp2_with (at_builtin;refine wpList_append_rd rfl (.tmp 10) (.tmp 11) 29 rfl w1.heap.size 5 i0 Tryz.underlying29 hi0 hz0 hz1 hz2 _ [] (by rfl) hO0 B bs m d (by rfl) hr2 HBS.o (by simp;omega) (by simp) ?_;intro v1 w2 hO1 hb1' _ _;have hb1:=hb1' _ hb0)
  rw[List.nil_append] at hO1
  obtain⟨D,c2,hv,hc,hr4⟩:=hO1.rd
  rw[HBS.o] at hv
  subst hv
  go_ret
  exact⟨[],.inr ⟨HNO.o,rfl⟩,by simp,D,c2,rfl,below_next BB.o (Jn) hb1,by rw[List.append_nil];exact hr4⟩
 | true=>
  have HNO:Hid (Fil.NormIs f f 0):=HQ.o.1 rfl
  have h24:n<=24:=by obtain⟨S,L,hg⟩:=HNO.o.good;rw[<-HN.o];exact hg.len
  obtain⟨L0,hL0⟩:∃L,m+(Wire.put n).length=L:=⟨_,rfl⟩
  have hp10:=Wire.put_len_le n (by omega)
  have HL0:=Jh hL0
  clear hL0
  go_wp2_with fail
  refine (refPut_at B bs m d n L0 HBS.o HL0.o (by omega) (by omega) _ (HRB.o.below BB.o)).mono ?_
  rintro e w2 ⟨D0,c0,rfl,hb,hr0⟩
  replace BB:=Jh (below_next BB.o (Jn) hb)
  have HR0:=Jh hr0
  clear hb hr0
  have hL1:L0<=m+10:=by have:=HL0.o;omega
  have HLL0:Hid ((bs++Wire.put n).length=L0):=by show _=_;rw[List.length_append,HBS.o];exact HL0.o
  go_wp2_with fail
  go_loopg [5,6] n (fun gg s3 s4 wr=>∃(k u cc:Nat) (D:OA),k<=n/\n-k<=gg/\s4=.int .i64 (k:Int)/\s3=.slice D u cc/\u<=m+10+300*k/\Hid ((bs++(Wire.put n++(f.take k).flatMap layOf)).length=u)/\Hid (Rd wr D (bs++(Wire.put n++(f.take k).flatMap layOf)))/\Hid (Below w.heap.size w wr))
  case atStart=>exact⟨0,L0,c0,D0,Nat.zero_le _,by omega,rfl,rfl,by omega,by show _=_;simpa using HLL0.o,by show Rd _ _ _;simpa using HR0.o,BB.o⟩
  case round=>
   obtain⟨k,u,cc,D,hk,hgg,rfl,rfl,hu,HU,HRD,HB⟩:=hrel
   by_cases hlt:k<n
   ·have hk':k<f.length:=by rw[HN.o];exact hlt
    have hpl:=HLL.o _ (List.getElem_mem hk')
    obtain⟨g,off,rfl,hg,c0,c1,c2,c3,c4⟩:=RdQ.at5 (RdK.below HR.o HB.o) hk'
    obtain⟨x,hx⟩:∃x,f[k]=x:=⟨_,rfl⟩
    have HX:=Jh hx
    rw[hx] at c0 c1 c2 c3 c4 hpl
    clear hx
    obtain⟨xn,xo,xk,xi,xt⟩:=x
    obtain⟨hp1,hp2,hp3,hp4⟩:=hpl
    dsimp only at hp1 hp2 hp3 hp4 c0 c1 c2 c3 c4
    have w5:(k:Int)<(n:Int):=by omega
    obtain⟨L2,hL2⟩:∃L,u+(Preds.lay xn xo xk xi xt).length=L:=⟨_,rfl⟩
    have h300:=Preds.lay_len xn xo xk xi xt hp3 hp4
    have HL2:=Jh hL2
    have hL3:L2<=u+300:=by omega
    clear hL2 h300
    go_wp2_with fail
    refine (rpput_at D _ u cc L2 xn xo xk xi xt HU.o HL2.o (by omega) hp3 hp4 (by omega) (by omega) _ HRD.o).mono ?_
    rintro e w3 ⟨D3,c3x,rfl,hb3,hr3⟩
    have HB3:=Jh (below_next HB.o (Jn) hb3)
    have e3:bs++(Wire.put n++(f.take k).flatMap layOf)++Preds.lay xn xo xk xi xt=bs++(Wire.put n++(f.take (k+1)).flatMap layOf):=by
     rw[List.take_succ_eq_append_getElem hk',HX.o,List.flatMap_append]
     simp[layOf]
    have HU3:Hid ((bs++(Wire.put n++(f.take (k+1)).flatMap layOf)).length=L2):=by show _=_;rw[<-e3,List.length_append,HU.o];exact HL2.o
    rw[e3] at hr3
    have HR3:=Jh hr3
    clear hb3 hr3 e3 c0 c1 c2 c3 c4
    go_wp2_with fail
    go_roundg (n-(k+1))
    case measure=>omega
    case rel=>exact⟨k+1,L2,c3x,D3,by omega,Jn,by go_num,rfl,by omega,HU3,HR3,HB3⟩
   ·have hkn:k=n:=by omega
    have HF:Hid (bs++(Wire.put n++(f.take k).flatMap layOf)=bs++fbytes f):=by show _=_;rw[hkn,List.take_of_length_le (by rw[HN.o];exact Jn)];unfold fbytes;rw[HN.o]
    have hfl:=fbytes_len HLL.o (by rw[HN.o];exact h24)
    clear hkn
    go_wp2_with fail
    go_ret
    refine ⟨fbytes f,.inl ⟨HNO.o,rfl⟩,hfl,D,cc,?_,HB.o,by rw[<-HF.o];exact HRD.o⟩
    have h1:=HU.o
    rw[HF.o,List.length_append,HBS.o] at h1
    rw[h1]
    rfl
end
end Go.Proofs.YtnfigjggjmncdaaGreat
