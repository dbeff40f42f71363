/- Contracts. -/
import Derived.Test.YtnfigjggjmncdaaGreatX7
import Derived.Test.YtnfigjggjmncdaaGreatX8
import Derived.Test.YtnfigjggjmncdaaGreatK4
import Derived.Test.YtnfigjggjmncdaaGreatL2
set_option maxRecDepth 100000
set_option maxHeartbeats 4000000
namespace Go.Proofs.YtnfigjggjmncdaaGreat
section
open Go.RowKit Go.Sort Spans Tb Dm
theorem own_rd_of {w:World} {base:Nat} {e:TypeId} {A:OA} {n c:Nat} {bs:LU} (h:Own w base e (.slice A n c) bs):Rd w A bs:=by
 obtain⟨A',c',e,_,h⟩:=h.rd
 injection e with e1
 subst e1
 exact h
theorem rdput_at (B:OA) (bs:LU) (m d:Nat) (hbs:bs.length=m) (hmb:m<=900) (dk di df:Int) (da:LU) (f:List Pr) (A:OA) (n c:Nat) (hn:f.length=n) (hm:n<=1000) (hl:PBd f) (w:World) (hrb:Rd w B bs) (hr:RdQ w A f):
  Calls Tryz.prog 12 #[.slice B m d,.agg (dC dk di df da.toArray A n c)] w fun e w'=>∃fs,DLaid ⟨dk,di,df,da,f⟩ fs/\LaysR w (bs++fs) (m+fs.length) e w':=by
 obtain⟨i0,hi0,hz0,hz1,hz2⟩:=info_parts byte_info
 have HM:=Jh hbs
 have HN:=Jh hn
 have HL:=Jh hl
 have HR:=Jh hr
 have hX:=Blk.new w 28 (dC dk di df da.toArray A n c)
 have hb0:=(gr1 w (.cells (dC dk di df da.toArray A n c) 28)).below
 have hr2:=(hrb.below hb0).below ((Below.refl _ _).alloc (Jn) (.cells #[] 5))
 clear hbs hn hl hrb hr
 have hsz:(w.alloc (.cells (dC dk di df da.toArray A n c) 28)).heap.size=w.heap.size+1:=by simp
 have hO0:=Own.empty (w.alloc (.cells (dC dk di df da.toArray A n c) 28)) (w.heap.size+1) 5 (Nat.le_of_eq hsz.symm)
 rw[hsz] at hO0
 have hbe:Below (w.heap.size+1) (w.alloc (.cells (dC dk di df da.toArray A n c) 28)) ((w.alloc (.cells (dC dk di df da.toArray A n c) 28)).alloc (.cells #[] 5)):=(Below.refl _ _).alloc (Nat.le_of_eq hsz.symm) _
 go_enter Tryz.func12,Tryz.ntmps12
 go_wp2_with (at_builtin;refine wpList_append_rd rfl (.tmp 8) (.tmp 9) 29 rfl (w.heap.size+1) 5 i0 Tryz.underlying29 hi0 hz0 hz1 hz2 _ [] (by rfl) hO0 B bs m d (by rfl) hr2 HM.o (by simp;omega) (by simp) ?_;intro v1 w1 hO1 hb1' _ _;have hb1:=hb1' _ hbe;clear hb1';have hX1:=hX.below hb1 (Nat.lt_succ_self _);obtain⟨p0,p1,p2,p3,p4,_⟩:=blk5 hX1)
 rw[List.nil_append] at hO1
 have BB:=Jh (hb0.trans (hb1.mono (Nat.le_succ _)))
 have HX:=Jh hX1
 have hs1:(w.heap.size+1)<=w1.heap.size:=by have:=hb1.size;omega
 obtain⟨D,cD,hv,hcD,_⟩:=hO1.rd
 rw[HM.o] at hv
 subst hv
 have HO:=Jh hO1
 clear hO0 hr2 hbe hX hb0 hb1 hsz hX1 hO1
 refine (rnorm10_at ⟨dk,di,df,da,f⟩ A n c HN.o hm HL.o w1 (RdK.below HR.o BB.o)).mono ?_
 rintro e w2 ⟨⟨ok,oi,of,oa,off⟩,er,A1,n1,c1,rfl,hdn,hl1,hc1,ho1,hb⟩
 dsimp only at hl1 ho1
 clear p0 p1 p2 p3 p4
 have HDN:=Jh hdn
 have HL1:=Jh hl1
 replace BB:=Jh (below_next BB.o (Jn) hb)
 replace HX:=Jh (HX.o.below hb HX.o.lt)
 replace HO:=Jh (HO.o.below hb)
 replace hs1:(w.heap.size+1)<=w2.heap.size:=Nat.le_trans hs1 hb.size
 clear hdn hl1 hb
 have hb:=(gr1 w2 (.cells (dC ok oi of oa.toArray A1 n1 c1) 28)).below
 have HO2:=Jh (Blk.new w2 28 (dC ok oi of oa.toArray A1 n1 c1))
 have HOR:Hid (RdQ (w2.alloc (.cells (dC ok oi of oa.toArray A1 n1 c1) 28)) A1 off):=RdK.below (own_rdq ho1) hb
 replace BB:=Jh (below_next BB.o (Jn) hb)
 replace HX:=Jh (HX.o.below hb HX.o.lt)
 replace HO:=Jh (HO.o.below hb)
 replace hs1:(w.heap.size+1)<=(w2.alloc (.cells (dC ok oi of oa.toArray A1 n1 c1) 28)).heap.size:=Nat.le_trans hs1 hb.size
 clear ho1 hb
 by_cases he:er=0
 ·subst he
  have hn1:n1<=100000:=HDN.o.short HL1.o
  obtain⟨c0,c1x,c2,c3,c4,_⟩:=blk5 HX.o
  obtain⟨z0,z1,z2,z3,z4,_⟩:=blk5 HO2.o
  obtain⟨q,hq⟩:∃q,decide ((⟨ok,oi,of,oa,off⟩:Dd)=⟨dk,di,df,da,f⟩)=q:=⟨_,rfl⟩
  have HQ:=Jh hq
  clear hq
  go_wp2_with fail
  clear c0 c1x c2 c3 c4 z0 z1 z2 z3 z4 HO2
  generalize (w2.alloc (.cells (dC ok oi of oa.toArray A1 n1 c1) 28))=w3 at *
  refine (dsame_at ok oi of oa off A1 n1 c1 HL1.o hn1 dk di df da f A n c HN.o (by omega) w3 HOR.o (RdK.below HR.o BB.o) q HQ.o).mono ?_
  rintro e w4 ⟨rfl,hb⟩
  replace BB:=Jh (below_next BB.o (Jn) hb)
  replace HX:=Jh (HX.o.below hb HX.o.lt)
  replace HO:=Jh (HO.o.below hb)
  replace hs1:(w.heap.size+1)<=w4.heap.size:=Nat.le_trans hs1 hb.size
  clear hb HOR
  cases q with
  | false=>
   go_wp2_with fail
   go_ret
   have hno:¬Dm.Own ⟨dk,di,df,da,f⟩:=fun h=>of_decide_eq_false HQ.o (HDN.o.one h.norm).1
   exact⟨[],.inr ⟨hno,rfl⟩,D,cD,rfl,BB.o,by rw[List.append_nil];exact own_rd_of HO.o⟩
  | true=>
   have how:Dm.Own ⟨dk,di,df,da,f⟩:=by
    have h:=HDN.o.good.1
    rw[of_decide_eq_true HQ.o] at h
    exact h
   have HOW:=Jh how
   have h24:=how.len
   dsimp only at h24
   obtain⟨f1,f2,f3,f4,f5,f6,f7,f8⟩:=how.1
   dsimp only at f1 f2 f3 f4 f5 f6 f7 f8
   rw[HN.o] at h24
   have F5:=Jh f5
   have F7:=Jh f7
   clear how HQ HDN f5 f6 f7 f8
   obtain⟨k,rfl⟩:∃k:Nat,dk=(k:Int):=⟨dk.toNat,by omega⟩
   obtain⟨i,rfl⟩:∃i:Nat,di=(i:Int):=⟨di.toNat,by omega⟩
   have hbk:(k:Int)<=255:=by omega
   have hbi:(i:Int)<=18446744073709551615:=by omega
   have HBY:Hid ((k:Int)=(((UInt8.ofNat k).toNat:Nat):Int)):=byte_of k (by omega)
   have HXL:Hid (bs.length+1<=140737488355328):=by show _<=_;rw[HM.o];omega
   have HY:Hid ((bs++[UInt8.ofNat k]).length=m+1):=by show _=_;rw[List.length_append,HM.o];rfl
   obtain⟨L5,hL5⟩:∃z,m+1+(Wire.put i).length=z:=⟨_,rfl⟩
   have hL5b:L5<=m+11:=by have:=Wire.put_len_le i (by omega);omega
   have HL5:=Jh hL5
   clear hL5
   go_wp2_with fail
   have hkeep:Hid (∀w',Below (w.heap.size+1) w4 w'->Below (w.heap.size+1) w4 w'/\w'.cell? ⟨w.heap.size,0,none⟩=some (.int .i64 (k:Int))/\w'.cell? ⟨w.heap.size,1,none⟩=some (.int .i64 (i:Int))):=fun w' h=>⟨h,(HX.o.below h (Nat.lt_succ_self _)).cell 0,(HX.o.below h (Nat.lt_succ_self _)).cell 1⟩
   have hS0:=hkeep.o w4.drew (Below.refl _ _).drew
   refine wp_region_held_drew (S:=fun w'=>Below (w.heap.size+1) w4 w'/\w'.cell? ⟨w.heap.size,0,none⟩=some (.int .i64 (k:Int))/\w'.cell? ⟨w.heap.size,1,none⟩=some (.int .i64 (i:Int))) (by kernel_rfl) hS0 (fun _=>?_)
   refine Jz 0 hS0 ?_
   refine Jz 1 hS0 ?_
   refine Jz 2 hS0 ?_
   refine wpAnyH_yes (i:=3) (d:=28) (v:=.int .u8 (k:Int)) rfl rfl (by kernel_rfl) (by kernel_rfl) (by kernel_rfl) (fun _ _ _ h=>h) (by rfl) ?_ hS0 ?_
   ·intro w' hSw
    go_simp
    all_goals first | rfl | (rw[IntKind.wrap_u8];omega)
   simp only[Act.put,zu0,zu1,zu2]
   refine Jz 6 hS0 ?_
   refine Jz 7 hS0 ?_
   refine wpAnyH_yes (i:=8) (d:=33) (v:=.int .u64 (i:Int)) rfl rfl (by kernel_rfl) (by kernel_rfl) (by kernel_rfl) (fun _ _ _ h=>h) (by rfl) ?_ hS0 ?_
   ·intro w' hSw
    go_simp
    all_goals first | rfl | (rw[IntKind.wrap_u64];omega)
   simp only[Act.put,zu0,zu1,zu2]
   have hO5:=HO.o.below (show Below w4.heap.size w4 w4.drew from (Below.refl _ _).drew)
   have hs5:(w.heap.size+1)<=w4.drew.heap.size:=hs1
   generalize w4.drew=w5 at *
   refine Je 4 (fun K hKa=>?_)
   go_simp
   have hb6:Below w5.heap.size w5 (w5.alloc (.cells #[.int .u8 (k:Int)] 5)):=(Below.refl _ _).alloc (Jn) _
   have hrx:=rd_const w5 5 (0,0) #[.int .u8 (k:Int)] [UInt8.ofNat k] (by rw[HBY.o];rfl)
   have hO6:=hO5.below hb6
   have hS1:=hkeep.o _ (hS0.1.trans (hb6.mono hs5))
   have hs6:(w.heap.size+1)<=(w5.alloc (.cells #[.int .u8 (k:Int)] 5)).heap.size:=Nat.le_trans hs5 hb6.size
   refine hKa.o _ _ hS1 ?_
   refine Je 5 (fun K hKb=>?_)
   refine op_append_rd (.tmp 25) (.tmp 29) 29 rfl (w.heap.size+1) 5 i0 Tryz.underlying29 hi0 hz0 hz1 hz2 (.slice D m cD) bs (by rfl) hO6 (some ⟨w5.heap.size,0,none⟩) [UInt8.ofNat k] 1 1 (by rfl) hrx rfl HXL.o hs6 ?_
   intro v6 w6 hO7 hb7'
   have hb7:=hb7' w4 hS1.1
   have hS2:=hkeep.o w6 hb7
   obtain⟨D6,c6,hv6,hc6,hr6⟩:=hO7.rd
   rw[HY.o] at hv6
   subst hv6
   refine hKb.o _ _ hS2 ?_
   simp only[Act.put,zu0,zu1,zu2]
   refine Je 9 (fun K hKc=>?_)
   go_simp
   with_reducible refine (refPut_at D6 (bs++[UInt8.ofNat k]) (m+1) c6 i L5 HY.o HL5.o (by omega) (by omega) w6 hr6).mono ?_
   rintro e w7 ⟨D7,c7,rfl,hb8,hr7⟩
   have hs7:=hS2.1.size
   have hS3:=hkeep.o _ (hS2.1.trans (hb8.mono (by omega)))
   go_wp2_with fail
   refine hKc.o _ _ hS3 ?_
   refine Jz 10 hS3 ?_
   refine Jd ?_
   have BB7:=Jh (BB.o.trans (hS3.1.mono (by have:=BB.o.size;omega)))
   have HX7:=Jh (HX.o.below hS3.1 (Nat.lt_succ_self _))
   have HR7:=Jh hr7
   have hn5:(bs++[UInt8.ofNat k]++Wire.put i).length=L5:=by rw[List.length_append,HY.o];exact HL5.o
   have HN5:=Jh hn5
   clear hS0 hS1 hS2 hS3 hkeep hr6 hr7 hb6 hb7 hb8 hb7' hrx hO5 hO6 hO7 hs5 hs6 hs7 hKa hKb hKc hc6 hn5 HX HO BB hs1
   obtain⟨c0,c1x,c2,c3,c4,_⟩:=blk5 HX7.o
   by_cases hk1:(k:Int)=1
   ·have h1:k=1:=by omega
    subst h1
    obtain⟨L6,hL6⟩:∃z,L5+(Wire.text da).length=z:=⟨_,rfl⟩
    have HL6:=Jh hL6
    have hda:=F5.o rfl
    clear hL6
    go_wp2_with fail
    refine (refPutText_at D7 (bs++[UInt8.ofNat 1]++Wire.put i) da L5 c7 da.length L6 HN5.o rfl HL6.o (by omega) w7 HR7.o).mono ?_
    rintro e w8 ⟨D8,c8,rfl,hb,hr8⟩
    have HB8:=Jh (below_next BB7.o (Jn) hb)
    have HR8:=Jh hr8
    clear hb hr8 c0 c1x c2 c3 c4
    go_wp2_with fail
    go_ret
    have hE:bs++[UInt8.ofNat 1]++Wire.put i++Wire.text da=bs++dbytes ⟨((1:Nat):Int),(i:Int),df,da,f⟩:=by unfold dbytes behindK;simp
    have h8:=HR8.o
    rw[hE] at h8
    have hlen:m+(dbytes ⟨((1:Nat):Int),(i:Int),df,da,f⟩).length=L6:=by rw[<-HM.o,<-List.length_append,<-hE,List.length_append,HN5.o,HL6.o]
    exact⟨_,.inl ⟨HOW.o,rfl⟩,D8,c8,by rw[hlen];rfl,HB8.o,h8⟩
   ·have d1:((k:Int) == 1)=false:=beq_eq_false_iff_ne.2 hk1
    by_cases hen:Ent (k:Int)
    ·have hfr:=F7.o hen
     obtain⟨r,rfl⟩:∃r:Nat,df=(r:Int):=⟨df.toNat,by omega⟩
     have hbr:(r:Int)<=18446744073709551615:=by omega
     have hr64:r<2 ^ 64:=by omega
     obtain⟨L6,hL6⟩:∃z,L5+(Wire.put r).length=z:=⟨_,rfl⟩
     have hL6b:L6<=L5+10:=by have:=Wire.put_len_le r (by omega);omega
     have HL6:=Jh hL6
     have HEN:=Jh hen
     have hn6:(bs++[UInt8.ofNat k]++Wire.put i++Wire.put r).length=L6:=by rw[List.length_append,HN5.o,HL6.o]
     have HN6:=Jh hn6
     have hd:((k:Int) == 3)=true∨(((k:Int) == 3)=false/\((k:Int) == 5)=true):=by
      rcases hen with h|h<;>rw[h]
      ·exact .inl rfl
      ·exact .inr ⟨rfl,rfl⟩
     clear hL6 hn6 hfr hen
     rcases hd with d3|⟨d3,d5⟩
     all_goals
      go_wp2_with fail
      clear c0 c1x c2 c3 c4
      have hkeep:Hid (∀w',Below w7.heap.size w7 w'->Below w7.heap.size w7 w'/\w'.cell? ⟨w.heap.size,2,none⟩=some (.int .i64 (r:Int))/\w'.cell? ⟨w.heap.size,4,none⟩=some (.slice A n c)):=fun w' h=>⟨h,(HX7.o.below h HX7.o.lt).cell 2,(HX7.o.below h HX7.o.lt).cell 4⟩
      have hS0:=hkeep.o w7.drew (Below.refl _ _).drew
      refine wp_region_held_drew (S:=fun w'=>Below w7.heap.size w7 w'/\w'.cell? ⟨w.heap.size,2,none⟩=some (.int .i64 (r:Int))/\w'.cell? ⟨w.heap.size,4,none⟩=some (.slice A n c)) (by kernel_rfl) hS0 (fun _=>?_)
      refine Jz 0 hS0 ?_
      refine Jz 1 hS0 ?_
      refine Jz 2 hS0 ?_
      refine wpAnyH_yes (i:=3) (d:=49) (v:=.int .u64 (r:Int)) rfl rfl (by kernel_rfl) (by kernel_rfl) (by kernel_rfl) (fun _ _ _ h=>h) (by rfl) ?_ hS0 ?_
      ·intro w' hSw
       go_simp
       all_goals first | rfl | (rw[IntKind.wrap_u64];omega)
      simp only[Act.put,zu0,zu1,zu2]
      refine Jz 5 hS0 ?_
      refine Jz 6 hS0 ?_
      refine Je 4 (fun K hKa=>?_)
      go_simp
      with_reducible refine (refPut_at D7 (bs++[UInt8.ofNat k]++Wire.put i) L5 c7 r L6 HN5.o HL6.o hr64 (by omega) _ (HR7.o.below hS0.1)).mono ?_
      rintro e w8 ⟨D8,c8,rfl,hb8,hr8⟩
      have hS1:=hkeep.o _ (below_next hS0.1 (Jn) hb8)
      go_wp2_with fail
      refine hKa.o _ _ hS1 ?_
      refine Je 7 (fun K hKb=>?_)
      go_simp
      with_reducible refine (rfput_at D8 (bs++[UInt8.ofNat k]++Wire.put i++Wire.put r) L6 c8 HN6.o (by omega) A f n c HN.o (by omega) HL.o _ hr8 (RdK.below HR.o (below_next BB7.o (Jn) hS1.1))).mono ?_
      rintro e w9 ⟨fs,hfl,hf8,D9,c9,rfl,hb9,hr9⟩
      have hS2:=hkeep.o _ (below_next hS1.1 (Jn) hb9)
      have HF9:=Jh hfl
      have HR9:=Jh hr9
      have HB9:=Jh (below_next BB7.o (Jn) hS2.1)
      clear hfl hr9 hb9 hb8
      go_wp2_with fail
      refine hKb.o _ _ hS2 ?_
      refine Jz 8 hS2 ?_
      refine Jd ?_
      clear hS0 hS1 hkeep
      go_wp2_with fail
      go_ret
      have hfs:fs=fbytes f:=by
       rcases HF9.o with ⟨_,h⟩|⟨h,_⟩
       ·exact h
       ·exact absurd HOW.o.2 h
      have hE:bs++[UInt8.ofNat k]++Wire.put i++Wire.put r++fs=bs++dbytes ⟨(k:Int),(i:Int),(r:Int),da,f⟩:=by unfold dbytes behindK;rw[if_neg hk1,if_pos HEN.o,hfs];simp
      have h9:=HR9.o
      rw[hE] at h9
      have hlen:m+(dbytes ⟨(k:Int),(i:Int),(r:Int),da,f⟩).length=L6+fs.length:=by rw[<-HM.o,<-List.length_append,<-hE,List.length_append,HN6.o]
      exact⟨_,.inl ⟨HOW.o,rfl⟩,D9,c9,by rw[hlen];rfl,HB9.o,h9⟩
    ·have d3:((k:Int) == 3)=false:=beq_eq_false_iff_ne.2 fun h=>hen (.inl h)
     have d5:((k:Int) == 5)=false:=beq_eq_false_iff_ne.2 fun h=>hen (.inr h)
     go_wp2_with fail
     go_ret
     have hE:bs++[UInt8.ofNat k]++Wire.put i=bs++dbytes ⟨(k:Int),(i:Int),df,da,f⟩:=by unfold dbytes behindK;rw[if_neg hk1,if_neg hen];simp
     have h7:=HR7.o
     rw[hE] at h7
     have hlen:m+(dbytes ⟨(k:Int),(i:Int),df,da,f⟩).length=L5:=by rw[<-HM.o,<-List.length_append,<-hE,HN5.o]
     exact⟨_,.inl ⟨HOW.o,rfl⟩,D7,c7,by rw[hlen];rfl,BB7.o,h7⟩
 ·have v0:(er != 0)=true:=by simpa using he
  have hno:¬Dm.Own ⟨dk,di,df,da,f⟩:=fun h=>he (HDN.o.one h.norm).2
  go_wp2_with fail
  go_ret
  exact⟨[],.inr ⟨hno,rfl⟩,D,cD,rfl,BB.o,by rw[List.append_nil];exact own_rd_of HO.o⟩
end
end Go.Proofs.YtnfigjggjmncdaaGreat
