/- Contracts. -/
import Derived.Test.YtnfigjggjmncdaaGreatB5
import Derived.Test.YtnfigjggjmncdaaGreatE2
set_option maxRecDepth 100000
set_option maxHeartbeats 4000000
namespace Go.Proofs.YtnfigjggjmncdaaGreat
section
open Go.RowKit Go.Sort Spans Op
theorem rwhole_1 (w:World):Calls Tryz.prog 151 #[.int .i64 1] w fun e w'=>e=.returned (spF 1 (-9223372036854775808) 9223372036854775807 [] [] false none 0 0)/\Grown w w':=by
 go_enter Tryz.func151,Tryz.ntmps151
 go_wp2_with fail
 refine bodyPost_ret (v:=spF 1 (-9223372036854775808) 9223372036854775807 [] [] false none 0 0) (by simp[results,Tryz.results151,go_sem]) rfl ?_
 exact⟨rfl,gr1 _ _⟩
theorem rwhole_3 (w:World):Calls Tryz.prog 151 #[.int .i64 3] w fun e w'=>e=.returned (spF 3 0 1 [] [] false none 0 0)/\Grown w w':=by
 go_enter Tryz.func151,Tryz.ntmps151
 go_wp2_with fail
 refine bodyPost_ret (v:=spF 3 0 1 [] [] false none 0 0) (by simp[results,Tryz.results151,go_sem]) rfl ?_
 exact⟨rfl,gr1 _ _⟩
theorem rwholeN_at (k:Int) (w:World) (hk:k=1∨k=3):Calls Tryz.prog 151 #[.int .i64 k] w fun e w'=>e=.returned (spF k (lowest k) (highest k) [] [] false none 0 0)/\Grown w w':=by
 rcases hk with rfl|rfl
 ·exact rwhole_1 w
 ·exact rwhole_3 w
theorem rnum_go (n:LU) (o k i:Int) (hk:k=1∨k=3) (ho1:1<=o) (ho2:o<=6) (hr:rightP ⟨n,o,k,i,[]⟩=true) (w:World):Calls Tryz.prog 123 #[.agg #[.string ⟨n.toArray⟩,.int .i64 o,.int .i64 k,.int .i64 i,.string ⟨#[]⟩]] w (GivesS w (IsOf ⟨n,o,k,i,[]⟩) 1):=by
 have hnb:=num_bd (rightP_side hr (show o≠8 by omega)) hk
 have hb1:-9223372036854775808<=lowest k:=by rcases hk with rfl | rfl<;>decide
 have hb2:highest k<=9223372036854775807:=by rcases hk with rfl | rfl<;>decide
 have HK:=Jh hk
 have h1:(lowest k)<=i:=hnb.1
 have h2:i<=(highest k):=hnb.2
 have HR:=Jh hr
 have hP:=Blk.alloc (Blk.new w 54 #[.string ⟨n.toArray⟩,.int .i64 o,.int .i64 k,.int .i64 i,.string ⟨#[]⟩]) (.cells #[.int .i64 0,.int .i64 0,.int .i64 0,.string ⟨#[]⟩,.string ⟨#[]⟩,.bool false,.slice none 0 0] 97)
 have hY:Blk ((w.alloc (.cells #[.string ⟨n.toArray⟩,.int .i64 o,.int .i64 k,.int .i64 i,.string ⟨#[]⟩] 54)).alloc (.cells #[.int .i64 0,.int .i64 0,.int .i64 0,.string ⟨#[]⟩,.string ⟨#[]⟩,.bool false,.slice none 0 0] 97)) (w.heap.size+1) 97 #[.int .i64 0,.int .i64 0,.int .i64 0,.string ⟨#[]⟩,.string ⟨#[]⟩,.bool false,.slice none 0 0]:=by
  have:=Blk.new (w.alloc (.cells #[.string ⟨n.toArray⟩,.int .i64 o,.int .i64 k,.int .i64 i,.string ⟨#[]⟩] 54)) 97 #[.int .i64 0,.int .i64 0,.int .i64 0,.string ⟨#[]⟩,.string ⟨#[]⟩,.bool false,.slice none 0 0]
  rwa [show (w.alloc (.cells #[.string ⟨n.toArray⟩,.int .i64 o,.int .i64 k,.int .i64 i,.string ⟨#[]⟩] 54)).heap.size=w.heap.size+1 by simp] at this
 have hg0:=gr2 w (.cells #[.string ⟨n.toArray⟩,.int .i64 o,.int .i64 k,.int .i64 i,.string ⟨#[]⟩] 54) (.cells #[.int .i64 0,.int .i64 0,.int .i64 0,.string ⟨#[]⟩,.string ⟨#[]⟩,.bool false,.slice none 0 0] 97)
 obtain⟨p0,p1,p2,p3,p4,_⟩:=blk5 hP
 clear hr hnb hk
 go_enter Tryz.func123,Tryz.ntmps123
 go_wp2_with fail
 clear p0 p1 p2 p3 p4
 generalize ((w.alloc (.cells #[.string ⟨n.toArray⟩,.int .i64 o,.int .i64 k,.int .i64 i,.string ⟨#[]⟩] 54)).alloc (.cells #[.int .i64 0,.int .i64 0,.int .i64 0,.string ⟨#[]⟩,.string ⟨#[]⟩,.bool false,.slice none 0 0] 97))=w0 at *
 refine (rwholeN_at k w0 HK.o).mono ?_
 rintro e w1 ⟨rfl,hg1⟩
 have hP1:=Blk.alloc (Blk.below hP hg1.below hP.lt) (.cells #[.int .i64 k,.int .i64 (lowest k),.int .i64 (highest k),.string ⟨#[]⟩,.string ⟨#[]⟩,.bool false,.slice none 0 0] 97)
 have hY1:=Blk.alloc (Blk.below hY hg1.below hY.lt) (.cells #[.int .i64 k,.int .i64 (lowest k),.int .i64 (highest k),.string ⟨#[]⟩,.string ⟨#[]⟩,.bool false,.slice none 0 0] 97)
 have hYw:=Blk.below hY hg1.below hY.lt
 have hBw:=(hg0.trans hg1).below
 have hW1:=Blk.new w1 97 #[.int .i64 k,.int .i64 (lowest k),.int .i64 (highest k),.string ⟨#[]⟩,.string ⟨#[]⟩,.bool false,.slice none 0 0]
 have hB1:=((hg0.trans hg1).alloc (.cells #[.int .i64 k,.int .i64 (lowest k),.int .i64 (highest k),.string ⟨#[]⟩,.string ⟨#[]⟩,.bool false,.slice none 0 0] 97)).below
 have hl1:w.heap.size+1<w1.heap.size:=(Blk.below hY hg1.below hY.lt).lt
 obtain⟨p0,p1,p2,p3,p4,_⟩:=blk5 hP1
 obtain⟨y0,y1,y2,y3,y4,y5,y6,_⟩:=blk7 hW1
 have hlw:w1.heap.size<(w1.alloc (.cells #[.int .i64 k,.int .i64 (lowest k),.int .i64 (highest k),.string ⟨#[]⟩,.string ⟨#[]⟩,.bool false,.slice none 0 0] 97)).heap.size:=hW1.lt
 clear hg0 hg1 hP hY hP1 hW1
 obtain rfl|rfl|rfl|rfl|rfl|rfl:o=1∨o=2∨o=3∨o=4∨o=5∨o=6:=by omega
 ·have hY2:=hY1
  have hB2:=hB1
  go_wp2_with fail
  clear p0 p1 p2 p3 p4 y0 y1 y2 y3 y4 y5 y6
  refine (rints_at k i i none [] 0 0 HK.o (h1) (h2) rfl (by decide) (fun v hv=>by cases hv) _ (.inl rfl)).mono ?_
  rintro e w3 ⟨⟨rK,rlo,rhi,rf,rt,ro,rno⟩,hin,hrl,A7,n7,c7,rfl,hl7,hc7,ho7,hb7⟩
  dsimp only at hrl hl7 ho7
  have HP:Hid (IsOf ⟨n,1,k,i,[]⟩ ⟨rK,rlo,rhi,rf,rt,ro,rno⟩):=of_N HR.o (HK.o) hin
  have hY3:=Blk.below hY2 hb7 hY2.lt
  have hB3:=below_next hB2 (Jn) hb7
  obtain⟨u0,u1,u2,u3,u4,u5,u6,q0,q1,q2,q3,q4,q5,q6⟩:=blk7 hY3
  have hlY:=hY3.lt
  have hlZ:=hY2.lt
  have HL7:=Jh hl7
  clear hin hb7 hl7
  go_wp2_with fail
  refine bodyPost_ret (v:=spF rK rlo rhi rf rt ro A7 n7 c7) (by simp[results,Tryz.results123,go_sem,u0,u1,u2,u3,u4,u5,u6]) rfl ?_
  exact⟨⟨rK,rlo,rhi,rf,rt,ro,rno⟩,HP.o,by show rno.length<=1;have:=HL7.o;omega,A7,n7,c7,rfl,HL7.o,hc7,(OwnK.put7 ho7 (by omega) _ _ _ _ _ _ _).less (by omega),below_put7 hB3 (by omega) _ _ _ _ _ _ _⟩
 ·have hrx:=rdk_one layV (w1.alloc (.cells #[.int .i64 k,.int .i64 (lowest k),.int .i64 (highest k),.string ⟨#[]⟩,.string ⟨#[]⟩,.bool false,.slice none 0 0] 97)) ⟨k,i,[]⟩ 52 #[.int .i64 k,.int .i64 i,.string ⟨#[]⟩] rfl
  have hsx:(w1.alloc (.cells #[.int .i64 k,.int .i64 (lowest k),.int .i64 (highest k),.string ⟨#[]⟩,.string ⟨#[]⟩,.bool false,.slice none 0 0] 97)).heap.size=w1.heap.size+1:=by simp
  rw[hsx] at hrx
  have hY2:=Blk.alloc hY1 (.cells #[.int .i64 k,.int .i64 i,.string ⟨#[]⟩] 52)
  have hB2:=hB1.alloc hB1.size (.cells #[.int .i64 k,.int .i64 i,.string ⟨#[]⟩] 52)
  go_wp2_with fail
  clear p0 p1 p2 p3 p4 y0 y1 y2 y3 y4 y5 y6
  refine (rints_at k (lowest k) (highest k) (some ⟨w1.heap.size+1,0,none⟩) [⟨k,i,[]⟩] 1 1 HK.o (Int.le_refl _) (Int.le_refl _) rfl (by decide) (fun v hv=>by simp at hv;subst hv;exact⟨rfl,rfl⟩) _ hrx).mono ?_
  rintro e w3 ⟨⟨rK,rlo,rhi,rf,rt,ro,rno⟩,hin,hrl,A7,n7,c7,rfl,hl7,hc7,ho7,hb7⟩
  dsimp only at hrl hl7 ho7
  have HP:Hid (IsOf ⟨n,2,k,i,[]⟩ ⟨rK,rlo,rhi,rf,rt,ro,rno⟩):=of_N HR.o (HK.o) hin
  have hY3:=Blk.below hY2 hb7 hY2.lt
  have hB3:=below_next hB2 (Jn) hb7
  obtain⟨u0,u1,u2,u3,u4,u5,u6,q0,q1,q2,q3,q4,q5,q6⟩:=blk7 hY3
  have hlY:=hY3.lt
  have hlZ:=hY2.lt
  have HL7:=Jh hl7
  clear hin hb7 hl7
  go_wp2_with fail
  refine bodyPost_ret (v:=spF rK rlo rhi rf rt ro A7 n7 c7) (by simp[results,Tryz.results123,go_sem,u0,u1,u2,u3,u4,u5,u6]) rfl ?_
  exact⟨⟨rK,rlo,rhi,rf,rt,ro,rno⟩,HP.o,by show rno.length<=1;have:=HL7.o;omega,A7,n7,c7,rfl,HL7.o,hc7,(OwnK.put7 ho7 (by omega) _ _ _ _ _ _ _).less (by omega),below_put7 hB3 (by omega) _ _ _ _ _ _ _⟩
 ·by_cases he:i=(lowest k)
  ·subst he
   have HF:Hid (IsOf ⟨n,3,k,(lowest k),[]⟩ none_):=of_N HR.o (HK.o) (show IsInts k (lowest k) ((lowest k)-1) [] none_ from ints_none HK.o fun x h3 h4=>by omega)
   clear h1 h2
   obtain⟨u0,u1,u2,u3,u4,u5,u6,q0,q1,q2,q3,q4,q5,q6⟩:=blk7 hY1
   obtain⟨t0,t1,t2,t3,t4,t5,t6,s0,s1,s2,s3,s4,s5,s6⟩:=blk7 hYw
   have hlY:=hY1.lt
   have hne:w.heap.size+1≠w1.heap.size:=by omega
   go_wp2_with fail
   refine bodyPost_ret (v:=spF 0 0 0 [] [] false none 0 0) (by simp[results,Tryz.results123,go_sem,t0,t1,t2,t3,t4,t5,t6,hl1]) rfl ?_
   exact⟨none_,HF.o,Nat.zero_le _,none,0,0,rfl,rfl,Jn,OwnK.none_ _ _,(below_put7 hBw (by omega) _ _ _ _ _ _ _).alloc (below_put7 hBw (by omega) _ _ _ _ _ _ _).size _⟩
  ·have v1:(i == (lowest k))=false:=by simpa using he
   have h3:(lowest k)<=i-1:=by omega
   have h4:i-1<=(highest k):=by omega
   have h5:-9223372036854775808<=i-1:=by omega
   have h6:i-1<=9223372036854775807:=by omega
   clear he
   have hY2:=hY1
   have hB2:=hB1
   go_wp2_with fail
   clear p0 p1 p2 p3 p4 y0 y1 y2 y3 y4 y5 y6
   refine (rints_at k (lowest k) (i-1) none [] 0 0 HK.o (Int.le_refl _) (h4) rfl (by decide) (fun v hv=>by cases hv) _ (.inl rfl)).mono ?_
   rintro e w3 ⟨⟨rK,rlo,rhi,rf,rt,ro,rno⟩,hin,hrl,A7,n7,c7,rfl,hl7,hc7,ho7,hb7⟩
   dsimp only at hrl hl7 ho7
   have HP:Hid (IsOf ⟨n,3,k,i,[]⟩ ⟨rK,rlo,rhi,rf,rt,ro,rno⟩):=of_N HR.o (HK.o) hin
   have hY3:=Blk.below hY2 hb7 hY2.lt
   have hB3:=below_next hB2 (Jn) hb7
   obtain⟨u0,u1,u2,u3,u4,u5,u6,q0,q1,q2,q3,q4,q5,q6⟩:=blk7 hY3
   have hlY:=hY3.lt
   have hlZ:=hY2.lt
   have HL7:=Jh hl7
   clear hin hb7 hl7
   go_wp2_with fail
   refine bodyPost_ret (v:=spF rK rlo rhi rf rt ro A7 n7 c7) (by simp[results,Tryz.results123,go_sem,u0,u1,u2,u3,u4,u5,u6]) rfl ?_
   exact⟨⟨rK,rlo,rhi,rf,rt,ro,rno⟩,HP.o,by show rno.length<=1;have:=HL7.o;omega,A7,n7,c7,rfl,HL7.o,hc7,(OwnK.put7 ho7 (by omega) _ _ _ _ _ _ _).less (by omega),below_put7 hB3 (by omega) _ _ _ _ _ _ _⟩
 ·have hY2:=hY1
  have hB2:=hB1
  go_wp2_with fail
  clear p0 p1 p2 p3 p4 y0 y1 y2 y3 y4 y5 y6
  refine (rints_at k (lowest k) i none [] 0 0 HK.o (Int.le_refl _) (h2) rfl (by decide) (fun v hv=>by cases hv) _ (.inl rfl)).mono ?_
  rintro e w3 ⟨⟨rK,rlo,rhi,rf,rt,ro,rno⟩,hin,hrl,A7,n7,c7,rfl,hl7,hc7,ho7,hb7⟩
  dsimp only at hrl hl7 ho7
  have HP:Hid (IsOf ⟨n,4,k,i,[]⟩ ⟨rK,rlo,rhi,rf,rt,ro,rno⟩):=of_N HR.o (HK.o) hin
  have hY3:=Blk.below hY2 hb7 hY2.lt
  have hB3:=below_next hB2 (Jn) hb7
  obtain⟨u0,u1,u2,u3,u4,u5,u6,q0,q1,q2,q3,q4,q5,q6⟩:=blk7 hY3
  have hlY:=hY3.lt
  have hlZ:=hY2.lt
  have HL7:=Jh hl7
  clear hin hb7 hl7
  go_wp2_with fail
  refine bodyPost_ret (v:=spF rK rlo rhi rf rt ro A7 n7 c7) (by simp[results,Tryz.results123,go_sem,u0,u1,u2,u3,u4,u5,u6]) rfl ?_
  exact⟨⟨rK,rlo,rhi,rf,rt,ro,rno⟩,HP.o,by show rno.length<=1;have:=HL7.o;omega,A7,n7,c7,rfl,HL7.o,hc7,(OwnK.put7 ho7 (by omega) _ _ _ _ _ _ _).less (by omega),below_put7 hB3 (by omega) _ _ _ _ _ _ _⟩
 ·by_cases he:i=(highest k)
  ·subst he
   have HF:Hid (IsOf ⟨n,5,k,(highest k),[]⟩ none_):=of_N HR.o (HK.o) (show IsInts k ((highest k)+1) (highest k) [] none_ from ints_none HK.o fun x h3 h4=>by omega)
   clear h1 h2
   obtain⟨u0,u1,u2,u3,u4,u5,u6,q0,q1,q2,q3,q4,q5,q6⟩:=blk7 hY1
   obtain⟨t0,t1,t2,t3,t4,t5,t6,s0,s1,s2,s3,s4,s5,s6⟩:=blk7 hYw
   have hlY:=hY1.lt
   have hne:w.heap.size+1≠w1.heap.size:=by omega
   go_wp2_with fail
   refine bodyPost_ret (v:=spF 0 0 0 [] [] false none 0 0) (by simp[results,Tryz.results123,go_sem,t0,t1,t2,t3,t4,t5,t6,hl1]) rfl ?_
   exact⟨none_,HF.o,Nat.zero_le _,none,0,0,rfl,rfl,Jn,OwnK.none_ _ _,(below_put7 hBw (by omega) _ _ _ _ _ _ _).alloc (below_put7 hBw (by omega) _ _ _ _ _ _ _).size _⟩
  ·have v1:(i == (highest k))=false:=by simpa using he
   have h3:(lowest k)<=i+1:=by omega
   have h4:i+1<=(highest k):=by omega
   have h5:-9223372036854775808<=i+1:=by omega
   have h6:i+1<=9223372036854775807:=by omega
   clear he
   have hY2:=hY1
   have hB2:=hB1
   go_wp2_with fail
   clear p0 p1 p2 p3 p4 y0 y1 y2 y3 y4 y5 y6
   refine (rints_at k (i+1) (highest k) none [] 0 0 HK.o (h3) (Int.le_refl _) rfl (by decide) (fun v hv=>by cases hv) _ (.inl rfl)).mono ?_
   rintro e w3 ⟨⟨rK,rlo,rhi,rf,rt,ro,rno⟩,hin,hrl,A7,n7,c7,rfl,hl7,hc7,ho7,hb7⟩
   dsimp only at hrl hl7 ho7
   have HP:Hid (IsOf ⟨n,5,k,i,[]⟩ ⟨rK,rlo,rhi,rf,rt,ro,rno⟩):=of_N HR.o (HK.o) hin
   have hY3:=Blk.below hY2 hb7 hY2.lt
   have hB3:=below_next hB2 (Jn) hb7
   obtain⟨u0,u1,u2,u3,u4,u5,u6,q0,q1,q2,q3,q4,q5,q6⟩:=blk7 hY3
   have hlY:=hY3.lt
   have hlZ:=hY2.lt
   have HL7:=Jh hl7
   clear hin hb7 hl7
   go_wp2_with fail
   refine bodyPost_ret (v:=spF rK rlo rhi rf rt ro A7 n7 c7) (by simp[results,Tryz.results123,go_sem,u0,u1,u2,u3,u4,u5,u6]) rfl ?_
   exact⟨⟨rK,rlo,rhi,rf,rt,ro,rno⟩,HP.o,by show rno.length<=1;have:=HL7.o;omega,A7,n7,c7,rfl,HL7.o,hc7,(OwnK.put7 ho7 (by omega) _ _ _ _ _ _ _).less (by omega),below_put7 hB3 (by omega) _ _ _ _ _ _ _⟩
 ·have hY2:=hY1
  have hB2:=hB1
  go_wp2_with fail
  clear p0 p1 p2 p3 p4 y0 y1 y2 y3 y4 y5 y6
  refine (rints_at k i (highest k) none [] 0 0 HK.o (h1) (Int.le_refl _) rfl (by decide) (fun v hv=>by cases hv) _ (.inl rfl)).mono ?_
  rintro e w3 ⟨⟨rK,rlo,rhi,rf,rt,ro,rno⟩,hin,hrl,A7,n7,c7,rfl,hl7,hc7,ho7,hb7⟩
  dsimp only at hrl hl7 ho7
  have HP:Hid (IsOf ⟨n,6,k,i,[]⟩ ⟨rK,rlo,rhi,rf,rt,ro,rno⟩):=of_N HR.o (HK.o) hin
  have hY3:=Blk.below hY2 hb7 hY2.lt
  have hB3:=below_next hB2 (Jn) hb7
  obtain⟨u0,u1,u2,u3,u4,u5,u6,q0,q1,q2,q3,q4,q5,q6⟩:=blk7 hY3
  have hlY:=hY3.lt
  have hlZ:=hY2.lt
  have HL7:=Jh hl7
  clear hin hb7 hl7
  go_wp2_with fail
  refine bodyPost_ret (v:=spF rK rlo rhi rf rt ro A7 n7 c7) (by simp[results,Tryz.results123,go_sem,u0,u1,u2,u3,u4,u5,u6]) rfl ?_
  exact⟨⟨rK,rlo,rhi,rf,rt,ro,rno⟩,HP.o,by show rno.length<=1;have:=HL7.o;omega,A7,n7,c7,rfl,HL7.o,hc7,(OwnK.put7 ho7 (by omega) _ _ _ _ _ _ _).less (by omega),below_put7 hB3 (by omega) _ _ _ _ _ _ _⟩
theorem rnumber_at (p:Pr) (hr:rightP p=true) (hk:p.k=1∨p.k=3) (w:World):Calls Tryz.prog 123 #[.agg #[.string ⟨p.n.toArray⟩,.int .i64 p.o,.int .i64 p.k,.int .i64 p.i,.string ⟨p.t.toArray⟩]] w (GivesS w (IsOf p) 1):=by
 obtain⟨n,o,k,i,t⟩:=p
 dsimp only at *
 have h8:o≠8:=fun e=>by
  subst e
  rcases rightP_cases hr with ⟨_,h,_⟩|⟨h,_⟩
  ·dsimp only at h;rcases hk with e | e<;>omega
  ·exact h rfl
 obtain rfl:t=[]:=right_numT (rightP_side hr h8) hk
 rcases rightP_cases hr with ⟨h,_⟩|⟨_,h1,h2,_,_,h7⟩
 ·exact absurd h h8
 ·dsimp only at h1 h2 h7
  have h77:o≠7:=fun e=>by have:=h7 e;rcases hk with h | h<;>omega
  exact rnum_go n o k i hk (by omega) (by omega) hr w
theorem rup_at (p:LU) (hp:p.length<=1000) (w:World):
  Calls Tryz.prog 124 #[.string ⟨p.toArray⟩] w fun e w'=>e=.returned (.tuple #[.string ⟨((Spans.up p).getD []).toArray⟩,.bool (Spans.up p).isSome])/\Below w.heap.size w w':=by
 have hz1:(⟨p.toArray⟩:ByteArray).size=p.length:=by simp[ByteArray.size]
 go_enter Tryz.func124,Tryz.ntmps124
 go_wp2_with fail
 go_loopg [4] p.length (fun gg s4 wr=>∃k:Nat,k<=p.length/\k<=gg/\s4=.int .i64 (k:Int)/\w=wr/\Hid (Spans.up p=Spans.up (p.take k)))
 case atStart=>exact⟨p.length,Jn,Jn,rfl,rfl,by show _=_;rw[List.take_length]⟩
 case round=>
  obtain⟨k,hk,hgg,rfl,rfl,HU⟩:=hrel
  cases k with
  | zero=>
   have HN:Hid (Spans.up p=none):=by rw[HU.o,List.take_zero];rfl
   go_wp2_with fail
   go_ret2
   refine ⟨?_,Below.refl _ _⟩
   rw[HN.o]
   rfl
  | succ q=>
   have hq:q<p.length:=by omega
   obtain⟨x,hx⟩:∃x,p[q]=x:=⟨_,rfl⟩
   have hz2:∀h,(⟨p.toArray⟩:ByteArray)[q]'h=x:=fun _=>hx
   have hwq:IntKind.i64.wrap (q:Int)=(q:Int):=by rw[IntKind.wrap_i64];omega
   have hqq:(q:Int)<(p.length:Int):=by omega
   have hq1:q<=p.length:=by omega
   have hE:(⟨p.toArray⟩:ByteArray).extract 0 q=⟨(p.take q).toArray⟩:=by apply ByteArray.ext;simp[ByteArray.data_extract]
   have hT:p.take (q+1)=p.take q++[x]:=by rw[List.take_succ_eq_append_getElem hq,hx]
   have HT:=Jh hT
   clear hx hT
   by_cases hx5:x=255
   ·subst hx5
    have HU2:Hid (Spans.up p=Spans.up (p.take q)):=by show _=_;rw[HU.o,HT.o,up_ff]
    go_wp2_with fail
    go_roundg q
    case measure=>omega
    case rel=>exact⟨q,by omega,Jn,by go_num,rfl,HU2⟩
   ·obtain⟨y,hy⟩:∃y,x+1=y:=⟨_,rfl⟩
    have HS:Hid (Spans.up p=some (p.take q++[y])):=by show _=_;rw[HU.o,HT.o,up_last _ _ hx5,hy]
    have hxn:x.toNat≠255:=fun e=>hx5 (UInt8.toNat_inj.1 e)
    have hxl:=x.toNat_lt
    have hd:(((x.toNat:Nat):Int) == 255)=false:=by simpa using (by omega:¬((x.toNat:Nat):Int)=255)
    have HX1:Hid (IntKind.u8.wrap (((x.toNat:Nat):Int)+1)=((y.toNat:Nat):Int)):=by
     show _=_
     have:y.toNat=x.toNat+1:=by rw[<-hy,UInt8.toNat_add];simp;omega
     rw[this,IntKind.wrap_u8]
     omega
    clear hx5 hy
    go_wp2_with fail
    have hS0:Below w.heap.size w w.drew:=(Below.refl _ _).drew
    refine wp_region_held_drew (S:=fun w'=>Below w.heap.size w w') (by kernel_rfl) hS0 (fun _=>?_)
    refine Jz 0 hS0 ?_
    refine Jz 1 hS0 ?_
    refine Jz 2 hS0 ?_
    refine Jz 3 hS0 ?_
    refine Jz 4 hS0 ?_
    refine Jz 5 hS0 ?_
    refine Jz 6 hS0 ?_
    refine Jz 7 hS0 ?_
    refine wpAnyH_yes (i:=8) (d:=28) (v:=.int .u8 ((y.toNat:Nat):Int)) rfl rfl (by kernel_rfl) (by kernel_rfl) (by kernel_rfl) (fun _ _ _ h=>h) (by rfl) ?_ hS0 ?_
    ·intro w' hSw;skip;go_simp
     exact HX1.o
    simp only[Act.put,zu0,zu1,zu2]
    refine Je 9 (fun Ka hKa=>?_)
    go_simp
    have hbb:Below w.heap.size w (w.alloc (.cells #[.int .u8 ((y.toNat:Nat):Int)] 5)).drew:=((Below.refl _ _).alloc (Jn) _).drew
    have hRd:Rd (w.alloc (.cells #[.int .u8 ((y.toNat:Nat):Int)] 5)).drew (some ⟨w.heap.size,0,none⟩) [y]:=Blk.rd (bs:=[y]) (Blk.new w 5 #[.int .u8 ((y.toNat:Nat):Int)])
    refine hKa.o _ _ hbb ?_
    clear hKa Ka
    generalize (w.alloc (.cells #[.int .u8 ((y.toNat:Nat):Int)] 5)).drew=w2 at *
    have hst:=run_str (P:=Tryz.prog) w2 (some ⟨w.heap.size,0,none⟩) [y] 1 1 hRd rfl 29 5 9 Tryz.underlying29 Tryz.underlying5 Tryz.underlying9
    refine Je 10 (fun Ka hKa=>?_)
    go_simp
    refine hKa.o _ _ hbb ?_
    clear hKa Ka
    have hC:((⟨(p.take q).toArray⟩:ByteArray)++(⟨#[y]⟩:ByteArray))=⟨(p.take q++[y]).toArray⟩:=by apply ByteArray.ext;simp
    refine Je 11 (fun Ka hKa=>?_)
    go_simp
    rw[if_neg (by omega)]
    go_simp
    refine hKa.o _ _ hbb ?_
    clear hKa Ka
    refine Je 12 (fun Ka hKa=>?_)
    go_simp
    skip
    skip
    refine hKa.o _ _ hbb ?_
    clear hKa Ka
    refine Je 13 (fun Ka hKa=>?_)
    go_simp
    skip
    skip
    refine hKa.o _ _ hbb ?_
    clear hKa Ka
    refine Jd ?_
    go_wp2_with fail
    go_ret2
    refine ⟨?_,hbb⟩
    rw[HS.o]
    rfl
end
end Go.Proofs.YtnfigjggjmncdaaGreat
