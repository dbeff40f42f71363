/-
 Deeds are folded into a right state as the document folds them, one behind the other, up to the first that fails: for every state and all deeds the call of the law answers true, and all arguments read behind it as they read before. No condition.
-/
import Derived.Test.YtnfigjggjmncdaaGreatX8
import Derived.Test.YtnfigjggjmncdaaGreatK3
import Derived.Test.YtnfigjggjmncdaaGreatK5
set_option maxRecDepth 100000
set_option maxHeartbeats 8000000
namespace Go.Proofs.YtnfigjggjmncdaaGreat
open Go.RowKit Go.ChangeShapes Go.WideShapes Go.ChangeAt Go.Sort Spans Tb Dm
theorem walk_DeedFolds (w:World) (s:Sx) (lns:s.Len) (rss:s.Rd w) (_:-9223372036854775808<=s.ep/\s.ep<=9223372036854775807) (_:s.c<=maxLen/\s.c1<=maxLen/\s.c2<=maxLen) (szs:s.n<=5900000000000/\s.n1<=3600000000000/\s.n2<=3600000000000) (lbs:LBx s.ls) (abs:EBx s.av) (ubs:EBx s.su) (A:OA) (es:List Dx) (len cap:Nat) (hl:es.length=len) (_:len<=cap) (_:cap<=maxLen) (hz:len<=2200000000000) (rd:RdDx w A es) (hw:DBx es):
  Calls Tryz.prog 4 #[s.v,.slice A len cap] w fun e w'=>e=.returned (.bool true)/\Below w.heap.size w w':=by
 have LN:=Jh lns
 have LB:=Jh lbs
 have AB:=Jh abs
 have UB:=Jh ubs
 have SZ:=Jh szs
 have HN:=Jh hl
 have HRD:=Jh rd
 have HW:=Jh hw
 have hb0:=(gr1 w (.cells (xC s.ep s.A s.n s.c s.A1 s.n1 s.c1 s.A2 s.n2 s.c2) 25)).below
 have BXs:=Jh (Blk.new w 25 (xC s.ep s.A s.n s.c s.A1 s.n1 s.c1 s.A2 s.n2 s.c2))
 have R0:=Jh rss
 have BB:=Jh hb0
 obtain⟨qs,hqs⟩:∃q,statesB s=q:=⟨_,rfl⟩
 have Qs:=Jh hqs
 obtain⟨qf,hqf⟩:∃q,fewD es=q:=⟨_,rfl⟩
 have Qf:=Jh hqf
 clear hb0 hqs hqf lns rss szs lbs abs ubs hl rd hw
 go_enter Tryz.func4,Tryz.ntmps4
 go_wp2_with fail
 generalize w.alloc (.cells (xC s.ep s.A s.n s.c s.A1 s.n1 s.c1 s.A2 s.n2 s.c2) 25)=w0 at *
 refine (dsmall_at w0).mono ?_
 rintro e w1 ⟨rfl,hb⟩
 replace BXs:=Jh (Blk.below BXs.o hb BXs.o.lt)
 replace BB:=Jh (below_next BB.o (by have:=BB.o.size;omega) hb)
 clear hb
 obtain⟨x0,x1,x2,x3,_⟩:=blk4 BXs.o
 have hlx:=BXs.o.lt
 go_wp2_with fail
 refine (states_at s LN.o SZ.o LB.o AB.o UB.o _ (R0.o.below BB.o) qs Qs.o).mono ?_
 rintro e w2 ⟨rfl,hb⟩
 replace BXs:=Jh (Blk.below BXs.o hb BXs.o.lt)
 replace BB:=Jh (below_next BB.o (by have:=BB.o.size;omega) hb)
 clear hb
 clear x0 x1 x2 x3 hlx
 go_wp2_with fail
 refine (dfew_at A es len cap HN.o (by omega) HW.o _ (HRD.o.below BB.o) qf Qf.o).mono ?_
 rintro e w3 ⟨rfl,hb⟩
 replace BXs:=Jh (Blk.below BXs.o hb BXs.o.lt)
 replace BB:=Jh (below_next BB.o (by have:=BB.o.size;omega) hb)
 clear hb
 obtain⟨x0,x1,x2,x3,_⟩:=blk4 BXs.o
 have hlx:=BXs.o.lt
 cases qs with
 | false=>
  go_wp2_with fail
  go_ret
  exact⟨rfl,BB.o⟩
 | true=>
  cases qf with
  | false=>
   go_wp2_with fail
   go_ret
   exact⟨rfl,BB.o⟩
  | true=>
   have OK:=Jh (ok_of Qs.o LN.o AB.o UB.o)
   obtain⟨qr,hqr⟩:∃q:Bool,q=true↔Tb.Right s.bk:=by
    by_cases h:Tb.Right s.bk
    ·exact⟨true,by simp[h]⟩
    ·exact⟨false,by simp[h]⟩
   have QR:=Jh hqr
   clear hqr
   go_wp2_with fail
   refine (right_st s LN.o OK.o.few OK.o.pa OK.o.pu _ (R0.o.below BB.o) qr QR.o).mono ?_
   rintro e w4 ⟨rfl,hb⟩
   replace BXs:=Jh (Blk.below BXs.o hb BXs.o.lt)
   replace BB:=Jh (below_next BB.o (by have:=BB.o.size;omega) hb)
   clear hb
   clear x0 x1 x2 x3 hlx
   cases qr with
   | false=>
    go_wp2_with fail
    go_ret
    exact⟨rfl,BB.o⟩
   | true=>
    have HK:=Jh (sok_of LN.o (R0.o.below BB.o) (QR.o.1 rfl))
    have hfd:=fewD_of Qf.o
    have HSH:Hid (ShortD es):=fun x hx=>⟨Nat.le_trans (hfd.2.2 x hx) (by decide),fun p hp=>⟨((hfd.1 x hx).2 p hp).1,((hfd.1 x hx).2 p hp).2,((HW.o x hx).2.2 p hp).2.2⟩⟩
    have h120:len<=120:=by have:=hfd.2.1;rw[HN.o] at this;exact this
    have HSR:Hid (∀x∈es,x.n<=1000/\PBd x.f):=fun x hx=>⟨Nat.le_trans (hfd.2.2 x hx) (by decide),(HSH.o x hx).2⟩
    clear hfd LN LB AB UB SZ R0 Qs Qf OK QR HW
    obtain⟨x0,x1,x2,x3,_⟩:=blk4 BXs.o
    have hlx:=BXs.o.lt
    go_wp2_with fail
    clear x0 x1 x2 x3 hlx
    refine (dfold_at s HK.o.len HK.o.few es A len cap HN.o (by omega) HSH.o w4 HK.o.right HK.o.rd (HRD.o.below BB.o)).mono ?_
    rintro e w5 ⟨t,m,er,rfl,hf,hfr,hb⟩
    have HFo:=Jh hf
    have HT0:=Jh (sok_of hfr.len hfr.own.rd (hf.right HK.o.right).1)
    have hb5:=hb.trans ((gr1 w5 (.cells (xC t.ep t.A t.n t.c t.A1 t.n1 t.c1 t.A2 t.n2 t.c2) 25)).below.mono hb.size)
    have BXt:=Jh (Blk.new w5 25 (xC t.ep t.A t.n t.c t.A1 t.n1 t.c1 t.A2 t.n2 t.c2))
    have HT:=Jh (HT0.o.below (gr1 w5 (.cells (xC t.ep t.A t.n t.c t.A1 t.n1 t.c1 t.A2 t.n2 t.c2) 25)).below)
    replace BXs:=Jh (Blk.below BXs.o hb5 BXs.o.lt)
    replace BB:=Jh (below_next BB.o (Jn) hb5)
    replace HK:=Jh (HK.o.below hb5)
    clear hf hfr hb hb5 HT0
    obtain⟨x0,x1,x2,x3,_⟩:=blk4 BXs.o
    have hlx:=BXs.o.lt
    go_wp2_with fail
    clear x0 x1 x2 x3 hlx
    generalize w5.alloc (.cells (xC t.ep t.A t.n t.c t.A1 t.n1 t.c1 t.A2 t.n2 t.c2) 25)=w6 at *
    generalize w5.heap.size=pt at *
    refine (rfold10_at s HK.o.len es A len cap HN.o (by omega) HSR.o w6 HK.o.right HK.o.rd (HRD.o.below BB.o)).mono ?_
    rintro e w7 ⟨t2,m2,er2,rfl,hf2,hl2,hr2,hb⟩
    obtain⟨hbk,hmm,hee⟩:=HFo.o.one hf2
    subst hmm hee
    have HE:=Jh hbk
    have HT2:=Jh ((sok_of hl2 hr2 (by rw[<-hbk];exact HT.o.right)).below (gr1 w7 (.cells (xC t2.ep t2.A t2.n t2.c t2.A1 t2.n1 t2.c1 t2.A2 t2.n2 t2.c2) 25)).below)
    have BXu:=Jh (Blk.new w7 25 (xC t2.ep t2.A t2.n t2.c t2.A1 t2.n1 t2.c1 t2.A2 t2.n2 t2.c2))
    have hb7:=hb.trans ((gr1 w7 (.cells (xC t2.ep t2.A t2.n t2.c t2.A1 t2.n1 t2.c1 t2.A2 t2.n2 t2.c2) 25)).below.mono hb.size)
    replace BXt:=Jh (Blk.below BXt.o hb7 BXt.o.lt)
    replace BB:=Jh (below_next BB.o (Jn) hb7)
    replace HT:=Jh (HT.o.below hb7)
    clear hbk hf2 hl2 hr2 hb hb7 HFo BXs HK
    obtain⟨y0,y1,y2,y3,_⟩:=blk4 BXt.o
    obtain⟨z0,z1,z2,z3,_⟩:=blk4 BXu.o
    have hly:=BXt.o.lt
    have hlz:=BXu.o.lt
    have v0:(er == er)=true:=beq_self_eq_true er
    go_wp2_with fail
    clear y0 y1 y2 y3 z0 z1 z2 z3 hly hlz
    generalize w7.alloc (.cells (xC t2.ep t2.A t2.n t2.c t2.A1 t2.n1 t2.c1 t2.A2 t2.n2 t2.c2) 25)=w8 at *
    refine (rsame_st t t2 HT.o.len HT2.o.len HT.o.few HT2.o.few w8 HT.o.rd HT2.o.rd true (decide_eq_true HE.o)).mono ?_
    rintro e w9 ⟨rfl,hb⟩
    replace BB:=Jh (below_next BB.o (Jn) hb)
    go_wp2_with fail
    go_ret
    exact⟨rfl,BB.o⟩
/-! ### The row's step. -/
namespace deedFolds
theorem own:ownKnob Tryz.prog.godebug=none:=by kernel_rfl
theorem laidOut:laidOutB Tryz.prog=true:=by kernel_rfl
set_option linter.unusedVariables false in
theorem lifted (os:Os) (started:os.Started) (H:Type) (enc:TypeId × Value->H):
  ReturnsInHanded {} Tryz.checked os 4 .any (Rows.deedFoldsSpec.pre6 enc Tryz.prog Tryz.f4 Rows.deedFoldsRow.domain false) (Rows.deedFoldsSpec.post enc Tryz.prog Tryz.f4 false true false false):=by
 refine returnsInHanded_of_change_sized (C:=Tryz.checked) own started (by kernel_rfl) Tryz.func4
  (ChangeSpec.witness6 (enc:=enc) (C:=Tryz.checked) false ⟨#[],#[.agg xZ,.slice none 0 0],[]⟩ 8 (by kernel_rfl) (by kernel_rfl) (by kernel_rfl) (by kernel_rfl)) ?_
 intro W base args ds gs before hval0 hW hcnd hsz0 _
 have hval:∀(j:Nat) t v,Tryz.f4.params[j]?=some t->args[j]?=some v->Value.okWide Tryz.prog W .any base t v:=hval0
 have hsz:(DataW.weightsEach Tryz.prog (Tryz.f4.params.toList++Rows.deedFoldsSpec.plain.varTypes Tryz.prog) (ds++gs)).all (·<=reachBytes)=true:=hsz0
 have hW':=hW
 obtain⟨p,q,hA0,hV,rfl,hfz,hnd⟩:=hW
 have hA:DataW.TrodAll enc Tryz.prog W 0 (fun _=>true) true Tryz.f4.params.toList args.toList ds p:=hA0
 rw[Tryz.params4] at hA hval hsz
 obtain⟨v0,vs0,d0,ds0,p0,q0,hargs,rfl,rfl,h0,r0⟩:=trodAll_cons hA
 obtain⟨v1,vs1,d1,ds1,p1,q1,rfl,rfl,rfl,h1,r1⟩:=trodAll_cons r0
 obtain⟨rfl,rfl,rfl⟩:=trodAll_nil r1
 obtain rfl:args=#[v0,v1]:=by cases args;simp_all
 obtain⟨rfl,rfl⟩:=trodVars_none hV
 obtain⟨s0,rfl,ln0,rs0,we0,cp0,sz0,lb0,ab0,ub0⟩:=open_state (hval 0 25 v0 rfl rfl) h0 (fun n hn=>by simpa using List.all_eq_true.1 hsz n (DataW.weights_mem_each (j:=0) rfl rfl n hn))
 have k0:=h0
 have lt0:∀x∈p0,x.block<W.heap.size:=by obtain⟨m,hm⟩:=k0;exact DataW.trod_lt m _ _ _ hm
 obtain⟨a1,len1,cap1,rfl⟩:=okWide_slice Tryz.underlying33 (hval 1 33 v1 rfl rfl)
 have k1:=h1
 have lt1:∀x∈p1,x.block<W.heap.size:=by obtain⟨m,hm⟩:=k1;exact DataW.trod_lt m _ _ _ hm
 obtain⟨es1,hl1,hc1,hm1,hz1,rd1,hw1⟩:=open_deeds_of k1 (fun n hn=>by simpa using List.all_eq_true.1 hsz n (DataW.weights_mem_each (j:=1) rfl rfl n hn))
 clear hA0 hval0
 refine (walk_DeedFolds W s0 ln0 rs0 we0 cp0 sz0 lb0 ab0 ub0 a1 es1 len1 cap1 hl1 hc1 hm1 hz1 rd1 hw1).mono fun e W' ⟨he,bel⟩=>?_
 subst he
 exact⟨_,rfl,_,_,_,[],_,[],hW',trodAll_mk1 (shut_bool Tryz.underlying4 _),(trodAll_cons_mk (Below.trod laidOut (by kernel_rfl) (of_decide_eq_true (by kernel_rfl)) k0 bel lt0) (trodAll_cons_mk (Below.trod laidOut (by kernel_rfl) (of_decide_eq_true (by kernel_rfl)) k1 bel lt1) trodAll_mk0)),rfl,bel.frame _,fun h=>by cases h⟩
theorem over:Rows.deedFoldsRow.holds Tryz.pinned (OpenSpec.ofChange Rows.deedFoldsSpec):=
 OpenClaim.holds_of_wide 4 Tryz.f4 rfl rfl rfl rfl rfl rfl rfl ⟨rfl,rfl,rfl,rfl,rfl⟩ rfl rfl rfl rfl rfl (by kernel_rfl) Tryz.func4 (by kernel_rfl)
  (of_decide_eq_true (by kernel_rfl)) (by unfold Func.isWrapper;first | (rw[if_pos (by decide +kernel)];kernel_rfl) | (rw[if_neg (by decide +kernel)];exact⟨rfl,rfl⟩))
  (fun os started H enc _=>lifted os started H enc)
end deedFolds
theorem deedFolds_holds:Rows.DeedFoldsSaid:=deedFolds.over
#print axioms deedFolds_holds
end Go.Proofs.YtnfigjggjmncdaaGreat
