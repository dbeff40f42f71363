/- Contracts. -/
import Derived.Test.YtnfigjggjmncdaaGreatE3
import Derived.Test.YtnfigjggjmncdaaGreatE4
import Derived.Test.YtnfigjggjmncdaaGreatE5
set_option maxRecDepth 100000
set_option maxHeartbeats 4000000
namespace Go.Proofs.YtnfigjggjmncdaaGreat
section
open Go.RowKit Go.Sort Spans Op
theorem rof_no (n:LU) (o k i:Int) (t:LU) (w:World) (hn:n.length<=9223372036854775807) (hl:t.length<=9223372036854775807) (hr:Preds.right n o k i t=false):
  Calls Tryz.prog 90 #[.agg (pC n.toArray o k i t.toArray)] w (Gives w none_):=by
 have HRR:=Jh hr
 clear hr
 have hgr:=gr2 w (.cells (pC n.toArray o k i t.toArray) 54) (.cells zC 97)
 have hP:=(Blk.new w 54 (pC n.toArray o k i t.toArray)).alloc (.cells zC 97)
 have hY:=Blk.new (w.alloc (.cells (pC n.toArray o k i t.toArray) 54)) 97 zC
 rw[show (w.alloc (.cells (pC n.toArray o k i t.toArray) 54)).heap.size=w.heap.size+1 by simp] at hY
 go_enter Tryz.func90,Tryz.ntmps90
 go_wp2_with fail
 generalize ((w.alloc (.cells (pC n.toArray o k i t.toArray) 54)).alloc (.cells zC 97))=w0 at *
 refine (rpright_is n o k i t w0 hn hl false HRR.o).mono ?_
 rintro e w1 ⟨rfl,hb1⟩
 have HY:=Jh (Blk.below hY hb1 hY.lt)
 have HP:=Jh (Blk.below hP hb1 hP.lt)
 have BB:=Jh (below_next hgr.below (Jn) hb1)
 clear hgr hY hP hb1
 obtain⟨y0,y1,y2,y3,y4,y5,y6,q0,q1,q2,q3,q4,q5,q6⟩:=blk7 HY.o
 have hlY:=HY.o.lt
 clear HP
 go_wp2_with fail
 refine bodyPost_ret (v:=spF 0 0 0 [] [] false none 0 0) (by simp[results,Tryz.results90,go_sem,y0,y1,y2,y3,y4,y5,y6]) rfl ?_
 exact⟨none,0,0,rfl,rfl,Jn,OwnK.none_ _ _,below_put7 BB.o (by omega) _ _ _ _ _ _ _⟩
theorem rof_any (n:LU) (k i:Int) (t:LU) (w:World) (hn:n.length<=9223372036854775807) (hl:t.length<=9223372036854775807) (hr:Preds.right n 8 k i t=true):
  Calls Tryz.prog 90 #[.agg (pC n.toArray 8 k i t.toArray)] w (Gives w any_):=by
 have HRR:=Jh hr
 clear hr
 have hgr:=gr2 w (.cells (pC n.toArray 8 k i t.toArray) 54) (.cells zC 97)
 have hP:=(Blk.new w 54 (pC n.toArray 8 k i t.toArray)).alloc (.cells zC 97)
 have hY:=Blk.new (w.alloc (.cells (pC n.toArray 8 k i t.toArray) 54)) 97 zC
 rw[show (w.alloc (.cells (pC n.toArray 8 k i t.toArray) 54)).heap.size=w.heap.size+1 by simp] at hY
 go_enter Tryz.func90,Tryz.ntmps90
 go_wp2_with fail
 generalize ((w.alloc (.cells (pC n.toArray 8 k i t.toArray) 54)).alloc (.cells zC 97))=w0 at *
 refine (rpright_is n 8 k i t w0 hn hl true HRR.o).mono ?_
 rintro e w1 ⟨rfl,hb1⟩
 have HY:=Jh (Blk.below hY hb1 hY.lt)
 have HP:=Jh (Blk.below hP hb1 hP.lt)
 have BB:=Jh (below_next hgr.below (Jn) hb1)
 clear hgr hY hP hb1
 obtain⟨p0,p1,p2,p3,p4,_⟩:=blk5 HP.o
 have hlP:=HP.o.lt
 obtain⟨y0,y1,y2,y3,y4,y5,y6,q0,q1,q2,q3,q4,q5,q6⟩:=blk7 HY.o
 have hlY:=HY.o.lt
 go_wp2_with fail
 refine bodyPost_ret (v:=spF 4 0 0 [] [] false none 0 0) (by simp[results,Tryz.results90,go_sem,y0,y1,y2,y3,y4,y5,y6]) rfl ?_
 exact⟨none,0,0,rfl,rfl,Jn,OwnK.none_ _ _,below_put7 BB.o (by omega) _ _ _ _ _ _ _⟩
theorem rof_N1 (n:LU) (o i:Int) (w:World) (hn:n.length<=9223372036854775807) (hl:([]:LU).length<=9223372036854775807) (h8:o≠8) (hP8:rightP ⟨n,o,1,i,[]⟩=true) (hr:Preds.right n o 1 i []=true):
  Calls Tryz.prog 90 #[.agg (pC n.toArray o 1 i #[])] w (GivesS w (IsOf ⟨n,o,1,i,[]⟩) 1):=by
 have v8:(o == 8)=false:=beq_eq_false_iff_ne.2 h8
 have HP8:=Jh hP8
 clear hP8 h8
 have HRR:=Jh hr
 clear hr
 have hgr:=gr2 w (.cells (pC n.toArray o 1 i #[]) 54) (.cells zC 97)
 have hP:=(Blk.new w 54 (pC n.toArray o 1 i #[])).alloc (.cells zC 97)
 have hY:=Blk.new (w.alloc (.cells (pC n.toArray o 1 i #[]) 54)) 97 zC
 rw[show (w.alloc (.cells (pC n.toArray o 1 i #[]) 54)).heap.size=w.heap.size+1 by simp] at hY
 go_enter Tryz.func90,Tryz.ntmps90
 go_wp2_with fail
 generalize ((w.alloc (.cells (pC n.toArray o 1 i #[]) 54)).alloc (.cells zC 97))=w0 at *
 refine (rpright_is n o 1 i [] w0 hn hl true HRR.o).mono ?_
 rintro e w1 ⟨rfl,hb1⟩
 have HY:=Jh (Blk.below hY hb1 hY.lt)
 have HP:=Jh (Blk.below hP hb1 hP.lt)
 have BB:=Jh (below_next hgr.below (Jn) hb1)
 clear hgr hY hP hb1
 obtain⟨p0,p1,p2,p3,p4,_⟩:=blk5 HP.o
 have hlP:=HP.o.lt
 go_wp2_with fail
 clear p0 p1 p2 p3 p4 hlP
 with_reducible refine (rnumber_at ⟨n,o,1,i,[]⟩ HP8.o (.inl rfl) w1).mono ?_
 rintro e w3 ⟨⟨rK,rlo,rhi,rf,rt,ro,rno⟩,hin,hrl,A7,n7,c7,rfl,hl7,hc7,ho7,hb7⟩
 dsimp only at hrl hl7 ho7
 have HIN:=Jh hin
 clear hin
 have HY3:=Jh (Blk.below HY.o hb7 HY.o.lt)
 have BB3:=Jh (below_next BB.o (Jn) hb7)
 have hs7:w.heap.size+1<w1.heap.size:=HY.o.lt
 have HL7:=Jh hl7
 have HC7:=Jh hc7
 have HO7:=Jh ho7
 clear hb7 hl7 hc7 ho7 HP HY
 obtain⟨y0,y1,y2,y3,y4,y5,y6,q0,q1,q2,q3,q4,q5,q6⟩:=blk7 HY3.o
 have hlY:=HY3.o.lt
 go_wp2_with fail
 refine bodyPost_ret (v:=spF rK rlo rhi rf rt ro A7 n7 c7) (by simp[results,Tryz.results90,go_sem,y0,y1,y2,y3,y4,y5,y6]) rfl ?_
 exact⟨⟨rK,rlo,rhi,rf,rt,ro,rno⟩,HIN.o,by show rno.length<=1;omega,A7,n7,c7,rfl,HL7.o,HC7.o,(OwnK.put7 HO7.o (by omega) _ _ _ _ _ _ _).less (by omega),below_put7 BB3.o (by omega) _ _ _ _ _ _ _⟩
theorem rof_N3 (n:LU) (o i:Int) (w:World) (hn:n.length<=9223372036854775807) (hl:([]:LU).length<=9223372036854775807) (h8:o≠8) (hP8:rightP ⟨n,o,3,i,[]⟩=true) (hr:Preds.right n o 3 i []=true):
  Calls Tryz.prog 90 #[.agg (pC n.toArray o 3 i #[])] w (GivesS w (IsOf ⟨n,o,3,i,[]⟩) 1):=by
 have v8:(o == 8)=false:=beq_eq_false_iff_ne.2 h8
 have HP8:=Jh hP8
 clear hP8 h8
 have HRR:=Jh hr
 clear hr
 have hgr:=gr2 w (.cells (pC n.toArray o 3 i #[]) 54) (.cells zC 97)
 have hP:=(Blk.new w 54 (pC n.toArray o 3 i #[])).alloc (.cells zC 97)
 have hY:=Blk.new (w.alloc (.cells (pC n.toArray o 3 i #[]) 54)) 97 zC
 rw[show (w.alloc (.cells (pC n.toArray o 3 i #[]) 54)).heap.size=w.heap.size+1 by simp] at hY
 go_enter Tryz.func90,Tryz.ntmps90
 go_wp2_with fail
 generalize ((w.alloc (.cells (pC n.toArray o 3 i #[]) 54)).alloc (.cells zC 97))=w0 at *
 refine (rpright_is n o 3 i [] w0 hn hl true HRR.o).mono ?_
 rintro e w1 ⟨rfl,hb1⟩
 have HY:=Jh (Blk.below hY hb1 hY.lt)
 have HP:=Jh (Blk.below hP hb1 hP.lt)
 have BB:=Jh (below_next hgr.below (Jn) hb1)
 clear hgr hY hP hb1
 obtain⟨p0,p1,p2,p3,p4,_⟩:=blk5 HP.o
 have hlP:=HP.o.lt
 go_wp2_with fail
 clear p0 p1 p2 p3 p4 hlP
 with_reducible refine (rnumber_at ⟨n,o,3,i,[]⟩ HP8.o (.inr rfl) w1).mono ?_
 rintro e w3 ⟨⟨rK,rlo,rhi,rf,rt,ro,rno⟩,hin,hrl,A7,n7,c7,rfl,hl7,hc7,ho7,hb7⟩
 dsimp only at hrl hl7 ho7
 have HIN:=Jh hin
 clear hin
 have HY3:=Jh (Blk.below HY.o hb7 HY.o.lt)
 have BB3:=Jh (below_next BB.o (Jn) hb7)
 have hs7:w.heap.size+1<w1.heap.size:=HY.o.lt
 have HL7:=Jh hl7
 have HC7:=Jh hc7
 have HO7:=Jh ho7
 clear hb7 hl7 hc7 ho7 HP HY
 obtain⟨y0,y1,y2,y3,y4,y5,y6,q0,q1,q2,q3,q4,q5,q6⟩:=blk7 HY3.o
 have hlY:=HY3.o.lt
 go_wp2_with fail
 refine bodyPost_ret (v:=spF rK rlo rhi rf rt ro A7 n7 c7) (by simp[results,Tryz.results90,go_sem,y0,y1,y2,y3,y4,y5,y6]) rfl ?_
 exact⟨⟨rK,rlo,rhi,rf,rt,ro,rno⟩,HIN.o,by show rno.length<=1;omega,A7,n7,c7,rfl,HL7.o,HC7.o,(OwnK.put7 HO7.o (by omega) _ _ _ _ _ _ _).less (by omega),below_put7 BB3.o (by omega) _ _ _ _ _ _ _⟩
theorem rof_T1 (n:LU) (t:LU) (ht:t.length<=32) (w:World) (hn:n.length<=9223372036854775807) (hl:t.length<=9223372036854775807) (hr:Preds.right n 1 2 0 t=true):
  Calls Tryz.prog 90 #[.agg (pC n.toArray 1 2 0 t.toArray)] w (GivesS w (IsTexts t (t++[0]) false []) 1):=by
 have HRR:=Jh hr
 clear hr
 have hgr:=gr2 w (.cells (pC n.toArray 1 2 0 t.toArray) 54) (.cells zC 97)
 have hP:=(Blk.new w 54 (pC n.toArray 1 2 0 t.toArray)).alloc (.cells zC 97)
 have hY:=Blk.new (w.alloc (.cells (pC n.toArray 1 2 0 t.toArray) 54)) 97 zC
 rw[show (w.alloc (.cells (pC n.toArray 1 2 0 t.toArray) 54)).heap.size=w.heap.size+1 by simp] at hY
 go_enter Tryz.func90,Tryz.ntmps90
 go_wp2_with fail
 generalize ((w.alloc (.cells (pC n.toArray 1 2 0 t.toArray) 54)).alloc (.cells zC 97))=w0 at *
 refine (rpright_is n 1 2 0 t w0 hn hl true HRR.o).mono ?_
 rintro e w1 ⟨rfl,hb1⟩
 have HY:=Jh (Blk.below hY hb1 hY.lt)
 have HP:=Jh (Blk.below hP hb1 hP.lt)
 have BB:=Jh (below_next hgr.below (Jn) hb1)
 clear hgr hY hP hb1
 obtain⟨p0,p1,p2,p3,p4,_⟩:=blk5 HP.o
 have hlP:=HP.o.lt
 have hap:=ba_app0 t
 have hno:¬9223372036854775807<t.length+1:=by omega
 go_wp2_with fail
 clear p0 p1 p2 p3 p4 hlP hap hno
 refine (rtexts_shut t (t++[0]) none [] 0 0 (.inl ht) (.inr ⟨t,rfl,ht⟩) rfl (by decide) (fun v hv=>by cases hv) w1 (.inl rfl)).mono ?_
 rintro e w3 ⟨⟨rK,rlo,rhi,rf,rt,ro,rno⟩,hin,hrl,A7,n7,c7,rfl,hl7,hc7,ho7,hb7⟩
 dsimp only at hrl hl7 ho7
 have HIN:=Jh hin
 clear hin
 have HY3:=Jh (Blk.below HY.o hb7 HY.o.lt)
 have BB3:=Jh (below_next BB.o (Jn) hb7)
 have hs7:w.heap.size+1<w1.heap.size:=HY.o.lt
 have HL7:=Jh hl7
 have HC7:=Jh hc7
 have HO7:=Jh ho7
 clear hb7 hl7 hc7 ho7 HP HY
 obtain⟨y0,y1,y2,y3,y4,y5,y6,q0,q1,q2,q3,q4,q5,q6⟩:=blk7 HY3.o
 have hlY:=HY3.o.lt
 go_wp2_with fail
 refine bodyPost_ret (v:=spF rK rlo rhi rf rt ro A7 n7 c7) (by simp[results,Tryz.results90,go_sem,y0,y1,y2,y3,y4,y5,y6]) rfl ?_
 exact⟨⟨rK,rlo,rhi,rf,rt,ro,rno⟩,HIN.o,by show rno.length<=1;omega,A7,n7,c7,rfl,HL7.o,HC7.o,(OwnK.put7 HO7.o (by omega) _ _ _ _ _ _ _).less (by omega),below_put7 BB3.o (by omega) _ _ _ _ _ _ _⟩
theorem rof_T2 (n:LU) (t:LU) (ht:t.length<=32) (w:World) (hn:n.length<=9223372036854775807) (hl:t.length<=9223372036854775807) (hr:Preds.right n 2 2 0 t=true):
  Calls Tryz.prog 90 #[.agg (pC n.toArray 2 2 0 t.toArray)] w (GivesS w (IsTexts [] [] true [(⟨2,0,t⟩:Val)]) 1):=by
 have HRR:=Jh hr
 clear hr
 have hgr:=gr2 w (.cells (pC n.toArray 2 2 0 t.toArray) 54) (.cells zC 97)
 have hP:=(Blk.new w 54 (pC n.toArray 2 2 0 t.toArray)).alloc (.cells zC 97)
 have hY:=Blk.new (w.alloc (.cells (pC n.toArray 2 2 0 t.toArray) 54)) 97 zC
 rw[show (w.alloc (.cells (pC n.toArray 2 2 0 t.toArray) 54)).heap.size=w.heap.size+1 by simp] at hY
 go_enter Tryz.func90,Tryz.ntmps90
 go_wp2_with fail
 generalize ((w.alloc (.cells (pC n.toArray 2 2 0 t.toArray) 54)).alloc (.cells zC 97))=w0 at *
 refine (rpright_is n 2 2 0 t w0 hn hl true HRR.o).mono ?_
 rintro e w1 ⟨rfl,hb1⟩
 have HY:=Jh (Blk.below hY hb1 hY.lt)
 have HP:=Jh (Blk.below hP hb1 hP.lt)
 have BB:=Jh (below_next hgr.below (Jn) hb1)
 clear hgr hY hP hb1
 obtain⟨p0,p1,p2,p3,p4,_⟩:=blk5 HP.o
 have hlP:=HP.o.lt
 have hrx:=rdk_one layV w1 ⟨2,0,t⟩ 52 (vC 2 0 t.toArray) rfl
 have hbx:=(gr1 w1 (.cells (vC 2 0 t.toArray) 52)).below
 go_wp2_with fail
 clear p0 p1 p2 p3 p4 hlP
 replace HY:=Jh (Blk.below HY.o hbx HY.o.lt)
 replace HP:=Jh (Blk.below HP.o hbx HP.o.lt)
 replace BB:=Jh (below_next BB.o (Jn) hbx)
 generalize w1.alloc (.cells (vC 2 0 t.toArray) 52)=w2 at *
 generalize w1.heap.size=q9 at *
 clear hbx
 refine (rtexts_open [] (some ⟨q9,0,none⟩) [⟨2,0,t⟩] 1 1 (.inl (by simp)) rfl (by decide) (fun v hv=>by simp at hv;subst hv;exact⟨rfl,rfl,ht⟩) w2 hrx).mono ?_
 rintro e w3 ⟨⟨rK,rlo,rhi,rf,rt,ro,rno⟩,hin,hrl,A7,n7,c7,rfl,hl7,hc7,ho7,hb7⟩
 dsimp only at hrl hl7 ho7
 have HIN:=Jh hin
 clear hin
 have HY3:=Jh (Blk.below HY.o hb7 HY.o.lt)
 have BB3:=Jh (below_next BB.o (Jn) hb7)
 have hs7:w.heap.size+1<w2.heap.size:=HY.o.lt
 have HL7:=Jh hl7
 have HC7:=Jh hc7
 have HO7:=Jh ho7
 clear hb7 hl7 hc7 ho7 HP HY
 obtain⟨y0,y1,y2,y3,y4,y5,y6,q0,q1,q2,q3,q4,q5,q6⟩:=blk7 HY3.o
 have hlY:=HY3.o.lt
 go_wp2_with fail
 refine bodyPost_ret (v:=spF rK rlo rhi rf rt ro A7 n7 c7) (by simp[results,Tryz.results90,go_sem,y0,y1,y2,y3,y4,y5,y6]) rfl ?_
 exact⟨⟨rK,rlo,rhi,rf,rt,ro,rno⟩,HIN.o,by show rno.length<=1;omega,A7,n7,c7,rfl,HL7.o,HC7.o,(OwnK.put7 HO7.o (by omega) _ _ _ _ _ _ _).less (by omega),below_put7 BB3.o (by omega) _ _ _ _ _ _ _⟩
theorem rof_T3 (n:LU) (t:LU) (ht:t.length<=32) (w:World) (hn:n.length<=9223372036854775807) (hl:t.length<=9223372036854775807) (hr:Preds.right n 3 2 0 t=true):
  Calls Tryz.prog 90 #[.agg (pC n.toArray 3 2 0 t.toArray)] w (GivesS w (IsTexts [] t false []) 1):=by
 have HRR:=Jh hr
 clear hr
 have hgr:=gr2 w (.cells (pC n.toArray 3 2 0 t.toArray) 54) (.cells zC 97)
 have hP:=(Blk.new w 54 (pC n.toArray 3 2 0 t.toArray)).alloc (.cells zC 97)
 have hY:=Blk.new (w.alloc (.cells (pC n.toArray 3 2 0 t.toArray) 54)) 97 zC
 rw[show (w.alloc (.cells (pC n.toArray 3 2 0 t.toArray) 54)).heap.size=w.heap.size+1 by simp] at hY
 go_enter Tryz.func90,Tryz.ntmps90
 go_wp2_with fail
 generalize ((w.alloc (.cells (pC n.toArray 3 2 0 t.toArray) 54)).alloc (.cells zC 97))=w0 at *
 refine (rpright_is n 3 2 0 t w0 hn hl true HRR.o).mono ?_
 rintro e w1 ⟨rfl,hb1⟩
 have HY:=Jh (Blk.below hY hb1 hY.lt)
 have HP:=Jh (Blk.below hP hb1 hP.lt)
 have BB:=Jh (below_next hgr.below (Jn) hb1)
 clear hgr hY hP hb1
 obtain⟨p0,p1,p2,p3,p4,_⟩:=blk5 HP.o
 have hlP:=HP.o.lt
 go_wp2_with fail
 clear p0 p1 p2 p3 p4 hlP
 refine (rtexts_shut [] t none [] 0 0 (.inl (by simp)) (.inl ht) rfl (by decide) (fun v hv=>by cases hv) w1 (.inl rfl)).mono ?_
 rintro e w3 ⟨⟨rK,rlo,rhi,rf,rt,ro,rno⟩,hin,hrl,A7,n7,c7,rfl,hl7,hc7,ho7,hb7⟩
 dsimp only at hrl hl7 ho7
 have HIN:=Jh hin
 clear hin
 have HY3:=Jh (Blk.below HY.o hb7 HY.o.lt)
 have BB3:=Jh (below_next BB.o (Jn) hb7)
 have hs7:w.heap.size+1<w1.heap.size:=HY.o.lt
 have HL7:=Jh hl7
 have HC7:=Jh hc7
 have HO7:=Jh ho7
 clear hb7 hl7 hc7 ho7 HP HY
 obtain⟨y0,y1,y2,y3,y4,y5,y6,q0,q1,q2,q3,q4,q5,q6⟩:=blk7 HY3.o
 have hlY:=HY3.o.lt
 go_wp2_with fail
 refine bodyPost_ret (v:=spF rK rlo rhi rf rt ro A7 n7 c7) (by simp[results,Tryz.results90,go_sem,y0,y1,y2,y3,y4,y5,y6]) rfl ?_
 exact⟨⟨rK,rlo,rhi,rf,rt,ro,rno⟩,HIN.o,by show rno.length<=1;omega,A7,n7,c7,rfl,HL7.o,HC7.o,(OwnK.put7 HO7.o (by omega) _ _ _ _ _ _ _).less (by omega),below_put7 BB3.o (by omega) _ _ _ _ _ _ _⟩
theorem rof_T4 (n:LU) (t:LU) (ht:t.length<=32) (w:World) (hn:n.length<=9223372036854775807) (hl:t.length<=9223372036854775807) (hr:Preds.right n 4 2 0 t=true):
  Calls Tryz.prog 90 #[.agg (pC n.toArray 4 2 0 t.toArray)] w (GivesS w (IsTexts [] (t++[0]) false []) 1):=by
 have HRR:=Jh hr
 clear hr
 have hgr:=gr2 w (.cells (pC n.toArray 4 2 0 t.toArray) 54) (.cells zC 97)
 have hP:=(Blk.new w 54 (pC n.toArray 4 2 0 t.toArray)).alloc (.cells zC 97)
 have hY:=Blk.new (w.alloc (.cells (pC n.toArray 4 2 0 t.toArray) 54)) 97 zC
 rw[show (w.alloc (.cells (pC n.toArray 4 2 0 t.toArray) 54)).heap.size=w.heap.size+1 by simp] at hY
 go_enter Tryz.func90,Tryz.ntmps90
 go_wp2_with fail
 generalize ((w.alloc (.cells (pC n.toArray 4 2 0 t.toArray) 54)).alloc (.cells zC 97))=w0 at *
 refine (rpright_is n 4 2 0 t w0 hn hl true HRR.o).mono ?_
 rintro e w1 ⟨rfl,hb1⟩
 have HY:=Jh (Blk.below hY hb1 hY.lt)
 have HP:=Jh (Blk.below hP hb1 hP.lt)
 have BB:=Jh (below_next hgr.below (Jn) hb1)
 clear hgr hY hP hb1
 obtain⟨p0,p1,p2,p3,p4,_⟩:=blk5 HP.o
 have hlP:=HP.o.lt
 have hap:=ba_app0 t
 have hno:¬9223372036854775807<t.length+1:=by omega
 go_wp2_with fail
 clear p0 p1 p2 p3 p4 hlP hap hno
 refine (rtexts_shut [] (t++[0]) none [] 0 0 (.inl (by simp)) (.inr ⟨t,rfl,ht⟩) rfl (by decide) (fun v hv=>by cases hv) w1 (.inl rfl)).mono ?_
 rintro e w3 ⟨⟨rK,rlo,rhi,rf,rt,ro,rno⟩,hin,hrl,A7,n7,c7,rfl,hl7,hc7,ho7,hb7⟩
 dsimp only at hrl hl7 ho7
 have HIN:=Jh hin
 clear hin
 have HY3:=Jh (Blk.below HY.o hb7 HY.o.lt)
 have BB3:=Jh (below_next BB.o (Jn) hb7)
 have hs7:w.heap.size+1<w1.heap.size:=HY.o.lt
 have HL7:=Jh hl7
 have HC7:=Jh hc7
 have HO7:=Jh ho7
 clear hb7 hl7 hc7 ho7 HP HY
 obtain⟨y0,y1,y2,y3,y4,y5,y6,q0,q1,q2,q3,q4,q5,q6⟩:=blk7 HY3.o
 have hlY:=HY3.o.lt
 go_wp2_with fail
 refine bodyPost_ret (v:=spF rK rlo rhi rf rt ro A7 n7 c7) (by simp[results,Tryz.results90,go_sem,y0,y1,y2,y3,y4,y5,y6]) rfl ?_
 exact⟨⟨rK,rlo,rhi,rf,rt,ro,rno⟩,HIN.o,by show rno.length<=1;omega,A7,n7,c7,rfl,HL7.o,HC7.o,(OwnK.put7 HO7.o (by omega) _ _ _ _ _ _ _).less (by omega),below_put7 BB3.o (by omega) _ _ _ _ _ _ _⟩
theorem rof_T5 (n:LU) (t:LU) (ht:t.length<=32) (w:World) (hn:n.length<=9223372036854775807) (hl:t.length<=9223372036854775807) (hr:Preds.right n 5 2 0 t=true):
  Calls Tryz.prog 90 #[.agg (pC n.toArray 5 2 0 t.toArray)] w (GivesS w (IsTexts (t++[0]) [] true []) 1):=by
 have HRR:=Jh hr
 clear hr
 have hgr:=gr2 w (.cells (pC n.toArray 5 2 0 t.toArray) 54) (.cells zC 97)
 have hP:=(Blk.new w 54 (pC n.toArray 5 2 0 t.toArray)).alloc (.cells zC 97)
 have hY:=Blk.new (w.alloc (.cells (pC n.toArray 5 2 0 t.toArray) 54)) 97 zC
 rw[show (w.alloc (.cells (pC n.toArray 5 2 0 t.toArray) 54)).heap.size=w.heap.size+1 by simp] at hY
 go_enter Tryz.func90,Tryz.ntmps90
 go_wp2_with fail
 generalize ((w.alloc (.cells (pC n.toArray 5 2 0 t.toArray) 54)).alloc (.cells zC 97))=w0 at *
 refine (rpright_is n 5 2 0 t w0 hn hl true HRR.o).mono ?_
 rintro e w1 ⟨rfl,hb1⟩
 have HY:=Jh (Blk.below hY hb1 hY.lt)
 have HP:=Jh (Blk.below hP hb1 hP.lt)
 have BB:=Jh (below_next hgr.below (Jn) hb1)
 clear hgr hY hP hb1
 obtain⟨p0,p1,p2,p3,p4,_⟩:=blk5 HP.o
 have hlP:=HP.o.lt
 have hap:=ba_app0 t
 have hno:¬9223372036854775807<t.length+1:=by omega
 go_wp2_with fail
 clear p0 p1 p2 p3 p4 hlP hap hno
 refine (rtexts_open (t++[0]) none [] 0 0 (.inr ⟨t,rfl,ht⟩) rfl (by decide) (fun v hv=>by cases hv) w1 (.inl rfl)).mono ?_
 rintro e w3 ⟨⟨rK,rlo,rhi,rf,rt,ro,rno⟩,hin,hrl,A7,n7,c7,rfl,hl7,hc7,ho7,hb7⟩
 dsimp only at hrl hl7 ho7
 have HIN:=Jh hin
 clear hin
 have HY3:=Jh (Blk.below HY.o hb7 HY.o.lt)
 have BB3:=Jh (below_next BB.o (Jn) hb7)
 have hs7:w.heap.size+1<w1.heap.size:=HY.o.lt
 have HL7:=Jh hl7
 have HC7:=Jh hc7
 have HO7:=Jh ho7
 clear hb7 hl7 hc7 ho7 HP HY
 obtain⟨y0,y1,y2,y3,y4,y5,y6,q0,q1,q2,q3,q4,q5,q6⟩:=blk7 HY3.o
 have hlY:=HY3.o.lt
 go_wp2_with fail
 refine bodyPost_ret (v:=spF rK rlo rhi rf rt ro A7 n7 c7) (by simp[results,Tryz.results90,go_sem,y0,y1,y2,y3,y4,y5,y6]) rfl ?_
 exact⟨⟨rK,rlo,rhi,rf,rt,ro,rno⟩,HIN.o,by show rno.length<=1;omega,A7,n7,c7,rfl,HL7.o,HC7.o,(OwnK.put7 HO7.o (by omega) _ _ _ _ _ _ _).less (by omega),below_put7 BB3.o (by omega) _ _ _ _ _ _ _⟩
theorem rof_T6 (n:LU) (t:LU) (ht:t.length<=32) (w:World) (hn:n.length<=9223372036854775807) (hl:t.length<=9223372036854775807) (hr:Preds.right n 6 2 0 t=true):
  Calls Tryz.prog 90 #[.agg (pC n.toArray 6 2 0 t.toArray)] w (GivesS w (IsTexts t [] true []) 1):=by
 have HRR:=Jh hr
 clear hr
 have hgr:=gr2 w (.cells (pC n.toArray 6 2 0 t.toArray) 54) (.cells zC 97)
 have hP:=(Blk.new w 54 (pC n.toArray 6 2 0 t.toArray)).alloc (.cells zC 97)
 have hY:=Blk.new (w.alloc (.cells (pC n.toArray 6 2 0 t.toArray) 54)) 97 zC
 rw[show (w.alloc (.cells (pC n.toArray 6 2 0 t.toArray) 54)).heap.size=w.heap.size+1 by simp] at hY
 go_enter Tryz.func90,Tryz.ntmps90
 go_wp2_with fail
 generalize ((w.alloc (.cells (pC n.toArray 6 2 0 t.toArray) 54)).alloc (.cells zC 97))=w0 at *
 refine (rpright_is n 6 2 0 t w0 hn hl true HRR.o).mono ?_
 rintro e w1 ⟨rfl,hb1⟩
 have HY:=Jh (Blk.below hY hb1 hY.lt)
 have HP:=Jh (Blk.below hP hb1 hP.lt)
 have BB:=Jh (below_next hgr.below (Jn) hb1)
 clear hgr hY hP hb1
 obtain⟨p0,p1,p2,p3,p4,_⟩:=blk5 HP.o
 have hlP:=HP.o.lt
 go_wp2_with fail
 clear p0 p1 p2 p3 p4 hlP
 refine (rtexts_open t none [] 0 0 (.inl ht) rfl (by decide) (fun v hv=>by cases hv) w1 (.inl rfl)).mono ?_
 rintro e w3 ⟨⟨rK,rlo,rhi,rf,rt,ro,rno⟩,hin,hrl,A7,n7,c7,rfl,hl7,hc7,ho7,hb7⟩
 dsimp only at hrl hl7 ho7
 have HIN:=Jh hin
 clear hin
 have HY3:=Jh (Blk.below HY.o hb7 HY.o.lt)
 have BB3:=Jh (below_next BB.o (Jn) hb7)
 have hs7:w.heap.size+1<w1.heap.size:=HY.o.lt
 have HL7:=Jh hl7
 have HC7:=Jh hc7
 have HO7:=Jh ho7
 clear hb7 hl7 hc7 ho7 HP HY
 obtain⟨y0,y1,y2,y3,y4,y5,y6,q0,q1,q2,q3,q4,q5,q6⟩:=blk7 HY3.o
 have hlY:=HY3.o.lt
 go_wp2_with fail
 refine bodyPost_ret (v:=spF rK rlo rhi rf rt ro A7 n7 c7) (by simp[results,Tryz.results90,go_sem,y0,y1,y2,y3,y4,y5,y6]) rfl ?_
 exact⟨⟨rK,rlo,rhi,rf,rt,ro,rno⟩,HIN.o,by show rno.length<=1;omega,A7,n7,c7,rfl,HL7.o,HC7.o,(OwnK.put7 HO7.o (by omega) _ _ _ _ _ _ _).less (by omega),below_put7 BB3.o (by omega) _ _ _ _ _ _ _⟩
theorem rof_T7 (n:LU) (t:LU) (ht:t.length<=32) (w:World) (hn:n.length<=9223372036854775807) (hl:t.length<=9223372036854775807) (hr:Preds.right n 7 2 0 t=true):
  Calls Tryz.prog 90 #[.agg (pC n.toArray 7 2 0 t.toArray)] w (GivesS w (IsTexts t ((Spans.up t).getD []) (Spans.up t).isNone []) 1):=by
 have HRR:=Jh hr
 clear hr
 have hgr:=gr2 w (.cells (pC n.toArray 7 2 0 t.toArray) 54) (.cells zC 97)
 have hP:=(Blk.new w 54 (pC n.toArray 7 2 0 t.toArray)).alloc (.cells zC 97)
 have hY:=Blk.new (w.alloc (.cells (pC n.toArray 7 2 0 t.toArray) 54)) 97 zC
 rw[show (w.alloc (.cells (pC n.toArray 7 2 0 t.toArray) 54)).heap.size=w.heap.size+1 by simp] at hY
 go_enter Tryz.func90,Tryz.ntmps90
 go_wp2_with fail
 generalize ((w.alloc (.cells (pC n.toArray 7 2 0 t.toArray) 54)).alloc (.cells zC 97))=w0 at *
 refine (rpright_is n 7 2 0 t w0 hn hl true HRR.o).mono ?_
 rintro e w1 ⟨rfl,hb1⟩
 have HY:=Jh (Blk.below hY hb1 hY.lt)
 have HP:=Jh (Blk.below hP hb1 hP.lt)
 have BB:=Jh (below_next hgr.below (Jn) hb1)
 clear hgr hY hP hb1
 obtain⟨p0,p1,p2,p3,p4,_⟩:=blk5 HP.o
 have hlP:=HP.o.lt
 go_wp2_with fail
 clear p0 p1 p2 p3 p4 hlP
 refine (rup_at t (by omega) w1).mono ?_
 rintro e w2 ⟨rfl,hb2⟩
 replace HY:=Jh (Blk.below HY.o hb2 HY.o.lt)
 replace HP:=Jh (Blk.below HP.o hb2 HP.o.lt)
 replace BB:=Jh (below_next BB.o (Jn) hb2)
 clear hb2
 cases hu:Spans.up t with
 | none=>
  go_wp2_with fail
  refine (rtexts_open t none [] 0 0 (.inl ht) rfl (by decide) (fun v hv=>by cases hv) w2 (.inl rfl)).mono ?_
  rintro e w3 ⟨⟨rK,rlo,rhi,rf,rt,ro,rno⟩,hin,hrl,A7,n7,c7,rfl,hl7,hc7,ho7,hb7⟩
  dsimp only at hrl hl7 ho7
  have HIN:=Jh hin
  clear hin
  have HY3:=Jh (Blk.below HY.o hb7 HY.o.lt)
  have BB3:=Jh (below_next BB.o (Jn) hb7)
  have hs7:w.heap.size+1<w2.heap.size:=HY.o.lt
  have HL7:=Jh hl7
  have HC7:=Jh hc7
  have HO7:=Jh ho7
  clear hb7 hl7 hc7 ho7 HP HY
  obtain⟨y0,y1,y2,y3,y4,y5,y6,q0,q1,q2,q3,q4,q5,q6⟩:=blk7 HY3.o
  have hlY:=HY3.o.lt
  go_wp2_with fail
  refine bodyPost_ret (v:=spF rK rlo rhi rf rt ro A7 n7 c7) (by simp[results,Tryz.results90,go_sem,y0,y1,y2,y3,y4,y5,y6]) rfl ?_
  exact⟨⟨rK,rlo,rhi,rf,rt,ro,rno⟩,(by rw[hu];exact HIN.o),by show rno.length<=1;omega,A7,n7,c7,rfl,HL7.o,HC7.o,(OwnK.put7 HO7.o (by omega) _ _ _ _ _ _ _).less (by omega),below_put7 BB3.o (by omega) _ _ _ _ _ _ _⟩
 | some u=>
  go_wp2_with fail
  refine (rtexts_shut t u none [] 0 0 (.inl ht) (.inl (by have:=up_len t u hu;omega)) rfl (by decide) (fun v hv=>by cases hv) w2 (.inl rfl)).mono ?_
  rintro e w3 ⟨⟨rK,rlo,rhi,rf,rt,ro,rno⟩,hin,hrl,A7,n7,c7,rfl,hl7,hc7,ho7,hb7⟩
  dsimp only at hrl hl7 ho7
  have HIN:=Jh hin
  clear hin
  have HY3:=Jh (Blk.below HY.o hb7 HY.o.lt)
  have BB3:=Jh (below_next BB.o (Jn) hb7)
  have hs7:w.heap.size+1<w2.heap.size:=HY.o.lt
  have HL7:=Jh hl7
  have HC7:=Jh hc7
  have HO7:=Jh ho7
  clear hb7 hl7 hc7 ho7 HP HY
  obtain⟨y0,y1,y2,y3,y4,y5,y6,q0,q1,q2,q3,q4,q5,q6⟩:=blk7 HY3.o
  have hlY:=HY3.o.lt
  go_wp2_with fail
  refine bodyPost_ret (v:=spF rK rlo rhi rf rt ro A7 n7 c7) (by simp[results,Tryz.results90,go_sem,y0,y1,y2,y3,y4,y5,y6]) rfl ?_
  exact⟨⟨rK,rlo,rhi,rf,rt,ro,rno⟩,(by rw[hu];exact HIN.o),by show rno.length<=1;omega,A7,n7,c7,rfl,HL7.o,HC7.o,(OwnK.put7 HO7.o (by omega) _ _ _ _ _ _ _).less (by omega),below_put7 BB3.o (by omega) _ _ _ _ _ _ _⟩
theorem rof_at (p:Pr) (w:World) (hn:p.n.length<=9223372036854775807) (hl:p.t.length<=9223372036854775807) (hi1:-9223372036854775808<=p.i) (hi2:p.i<=9223372036854775807):
  Calls Tryz.prog 90 #[.agg (pC p.n.toArray p.o p.k p.i p.t.toArray)] w (GivesS w (IsOf p) 1):=by
 obtain⟨n,o,k,i,t⟩:=p
 dsimp only at *
 cases hr:Preds.right n o k i t with
 | false=>exact (rof_no n o k i t w hn hl hr).mono fun e w' h=>⟨none_,of_wrong hr,by simp[none_],h⟩
 | true=>
  have hP:rightP ⟨n,o,k,i,t⟩=true:=(rightP_iff _).2 ⟨hr,hi1,hi2⟩
  rcases rightP_cases hP with ⟨h8,h1,h2,h3⟩|⟨h8,h1,h2,hv,hlt,h7⟩
  ·dsimp only at h8 h1 h2 h3
   subst h8
   exact (rof_any n k i t w hn hl hr).mono fun e w' h=>⟨any_,of_E hP rfl,by simp[any_],h⟩
  ·dsimp only at h8 h1 h2 hv hlt h7
   by_cases hk2:k=2
   ·subst hk2
    have hi0:i=0:=by rcases Vals.right_cases hv with ⟨h,_⟩ | ⟨_,h,_⟩ | ⟨h,_⟩<;>omega
    subst hi0
    have hoo:o=1∨o=2∨o=3∨o=4∨o=5∨o=6∨o=7:=by omega
    rcases hoo with rfl|rfl|rfl|rfl|rfl|rfl|rfl
    ·exact (rof_T1 n t hlt w hn hl hr).mono fun e w' ⟨r,hi,hl,h⟩=>⟨r,of_T hP rfl (by simpa[ofFrm,ofTo,ofOpn,ofNo,sideV] using hi),hl,h⟩
    ·exact (rof_T2 n t hlt w hn hl hr).mono fun e w' ⟨r,hi,hl,h⟩=>⟨r,of_T hP rfl (by simpa[ofFrm,ofTo,ofOpn,ofNo,sideV] using hi),hl,h⟩
    ·exact (rof_T3 n t hlt w hn hl hr).mono fun e w' ⟨r,hi,hl,h⟩=>⟨r,of_T hP rfl (by simpa[ofFrm,ofTo,ofOpn,ofNo,sideV] using hi),hl,h⟩
    ·exact (rof_T4 n t hlt w hn hl hr).mono fun e w' ⟨r,hi,hl,h⟩=>⟨r,of_T hP rfl (by simpa[ofFrm,ofTo,ofOpn,ofNo,sideV] using hi),hl,h⟩
    ·exact (rof_T5 n t hlt w hn hl hr).mono fun e w' ⟨r,hi,hl,h⟩=>⟨r,of_T hP rfl (by simpa[ofFrm,ofTo,ofOpn,ofNo,sideV] using hi),hl,h⟩
    ·exact (rof_T6 n t hlt w hn hl hr).mono fun e w' ⟨r,hi,hl,h⟩=>⟨r,of_T hP rfl (by simpa[ofFrm,ofTo,ofOpn,ofNo,sideV] using hi),hl,h⟩
    ·exact (rof_T7 n t hlt w hn hl hr).mono fun e w' ⟨r,hi,hl,h⟩=>⟨r,of_T hP rfl (by simpa[ofFrm,ofTo,ofOpn,ofNo,sideV] using hi),hl,h⟩
   ·have hk:k=1∨k=3:=by rcases Vals.right_cases hv with ⟨h,_⟩ | ⟨h,_⟩ | ⟨h,_⟩<;>omega
    have ht:t=[]:=by rcases Vals.right_cases hv with ⟨_,h⟩ | ⟨h,_⟩ | ⟨_,h,_⟩<;>first | exact h | omega
    subst ht
    rcases hk with rfl|rfl
    ·exact rof_N1 n o i w hn hl h8 hP hr
    ·exact rof_N3 n o i w hn hl h8 hP hr
end
end Go.Proofs.YtnfigjggjmncdaaGreat
