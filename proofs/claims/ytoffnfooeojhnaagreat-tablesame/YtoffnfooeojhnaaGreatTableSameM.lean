/-
  Same tells states that are alike, turned round, and handed on, and a copy is alike, and just as right: for every three states the call of the law answers true, and all arguments read behind it as they read before. No condition.
-/
import Derived.Test.YtoffnfooeojhnaaGreatM11
namespace Go.Proofs.YtoffnfooeojhnaaGreat
open Go.RowKit Go.ChangeShapes Go.WideShapes Go.ChangeAt Go.Sort Spans Tb
set_option maxRecDepth 100000 in
set_option maxHeartbeats 8000000 in
theorem walk_TableSame (w : World) (s : Sx) (lns : s.Len) (rss : s.Rd w) (wes : -9223372036854775808 ≤ s.ep ∧ s.ep ≤ 9223372036854775807) (cps : s.c ≤ maxLen ∧ s.c1 ≤ maxLen ∧ s.c2 ≤ maxLen) (szs : s.n ≤ 5900000000000 ∧ s.n1 ≤ 3600000000000 ∧ s.n2 ≤ 3600000000000) (lbs : LBx s.ls) (abs : EBx s.av) (ubs : EBx s.su) (t : Sx) (lnt : t.Len) (rst : t.Rd w) (wet : -9223372036854775808 ≤ t.ep ∧ t.ep ≤ 9223372036854775807) (cpt : t.c ≤ maxLen ∧ t.c1 ≤ maxLen ∧ t.c2 ≤ maxLen) (szt : t.n ≤ 5900000000000 ∧ t.n1 ≤ 3600000000000 ∧ t.n2 ≤ 3600000000000) (lbt : LBx t.ls) (abt : EBx t.av) (ubt : EBx t.su) (u : Sx) (lnu : u.Len) (rsu : u.Rd w) (weu : -9223372036854775808 ≤ u.ep ∧ u.ep ≤ 9223372036854775807) (cpu : u.c ≤ maxLen ∧ u.c1 ≤ maxLen ∧ u.c2 ≤ maxLen) (szu : u.n ≤ 5900000000000 ∧ u.n1 ≤ 3600000000000 ∧ u.n2 ≤ 3600000000000) (lbu : LBx u.ls) (abu : EBx u.av) (ubu : EBx u.su) :
    Calls Tryz.prog 5 #[s.v, t.v, u.v] w fun e w' => e = .returned (.bool true) ∧ Below w.heap.size w w' := by
  obtain ⟨se, sA, sn, sc, sl, sA1, sn1, sc1, sv, sA2, sn2, sc2, su⟩ := s
  have LNs := Lib.hid lns
  have LBs := Lib.hid lbs
  have ABs := Lib.hid abs
  have UBs := Lib.hid ubs
  have SZs := Lib.hid szs
  obtain ⟨te, tA, tn, tc, tl, tA1, tn1, tc1, tv, tA2, tn2, tc2, tu⟩ := t
  have LNt := Lib.hid lnt
  have LBt := Lib.hid lbt
  have ABt := Lib.hid abt
  have UBt := Lib.hid ubt
  have SZt := Lib.hid szt
  obtain ⟨ue, uA, un, uc, ul, uA1, un1, uc1, uv, uA2, un2, uc2, uu⟩ := u
  have LNu := Lib.hid lnu
  have LBu := Lib.hid lbu
  have ABu := Lib.hid abu
  have UBu := Lib.hid ubu
  have SZu := Lib.hid szu
  have hb0 := (gr3 w (.cells #[.int .i64 se, .slice sA sn sc, .slice sA1 sn1 sc1, .slice sA2 sn2 sc2] 52) (.cells #[.int .i64 te, .slice tA tn tc, .slice tA1 tn1 tc1, .slice tA2 tn2 tc2] 52) (.cells #[.int .i64 ue, .slice uA un uc, .slice uA1 un1 uc1, .slice uA2 un2 uc2] 52)).below
  have hs1 : (w.alloc (.cells #[.int .i64 se, .slice sA sn sc, .slice sA1 sn1 sc1, .slice sA2 sn2 sc2] 52)).heap.size = w.heap.size + 1 := by simp
  have hs2 : ((w.alloc (.cells #[.int .i64 se, .slice sA sn sc, .slice sA1 sn1 sc1, .slice sA2 sn2 sc2] 52)).alloc (.cells #[.int .i64 te, .slice tA tn tc, .slice tA1 tn1 tc1, .slice tA2 tn2 tc2] 52)).heap.size = w.heap.size + 1 + 1 := by simp
  have BXs := Lib.hid (((Blk.new w 52 #[.int .i64 se, .slice sA sn sc, .slice sA1 sn1 sc1, .slice sA2 sn2 sc2]).alloc (.cells #[.int .i64 te, .slice tA tn tc, .slice tA1 tn1 tc1, .slice tA2 tn2 tc2] 52)).alloc (.cells #[.int .i64 ue, .slice uA un uc, .slice uA1 un1 uc1, .slice uA2 un2 uc2] 52))
  have hbt := (Blk.new (w.alloc (.cells #[.int .i64 se, .slice sA sn sc, .slice sA1 sn1 sc1, .slice sA2 sn2 sc2] 52)) 52 #[.int .i64 te, .slice tA tn tc, .slice tA1 tn1 tc1, .slice tA2 tn2 tc2]).alloc (.cells #[.int .i64 ue, .slice uA un uc, .slice uA1 un1 uc1, .slice uA2 un2 uc2] 52)
  rw [hs1] at hbt
  have BXt := Lib.hid hbt
  have hbu := Blk.new ((w.alloc (.cells #[.int .i64 se, .slice sA sn sc, .slice sA1 sn1 sc1, .slice sA2 sn2 sc2] 52)).alloc (.cells #[.int .i64 te, .slice tA tn tc, .slice tA1 tn1 tc1, .slice tA2 tn2 tc2] 52)) 52 #[.int .i64 ue, .slice uA un uc, .slice uA1 un1 uc1, .slice uA2 un2 uc2]
  rw [hs2] at hbu
  have BXu := Lib.hid hbu
  have Rs := Lib.hid (rss.below hb0)
  have Rt := Lib.hid (rst.below hb0)
  have Ru := Lib.hid (rsu.below hb0)
  have BB := Lib.hid hb0
  obtain ⟨qs, hqs⟩ : ∃ q, statesB ⟨se, sA, sn, sc, sl, sA1, sn1, sc1, sv, sA2, sn2, sc2, su⟩ = q := ⟨_, rfl⟩
  have Qs := Lib.hid hqs
  obtain ⟨qt, hqt⟩ : ∃ q, statesB ⟨te, tA, tn, tc, tl, tA1, tn1, tc1, tv, tA2, tn2, tc2, tu⟩ = q := ⟨_, rfl⟩
  have Qt := Lib.hid hqt
  obtain ⟨qu, hqu⟩ : ∃ q, statesB ⟨ue, uA, un, uc, ul, uA1, un1, uc1, uv, uA2, un2, uc2, uu⟩ = q := ⟨_, rfl⟩
  have Qu := Lib.hid hqu
  clear hb0 hs1 hs2 hbt hbu lns rss wes cps szs lbs abs ubs hqs lnt rst wet cpt szt lbt abt ubt hqt lnu rsu weu cpu szu lbu abu ubu hqu
  go_enter Tryz.func5, Tryz.ntmps5
  go_wp2_with fail
  generalize (((w.alloc (.cells #[.int .i64 se, .slice sA sn sc, .slice sA1 sn1 sc1, .slice sA2 sn2 sc2] 52)).alloc (.cells #[.int .i64 te, .slice tA tn tc, .slice tA1 tn1 tc1, .slice tA2 tn2 tc2] 52)).alloc (.cells #[.int .i64 ue, .slice uA un uc, .slice uA1 un1 uc1, .slice uA2 un2 uc2] 52)) = w0 at *
  refine (tsmall_at w0).mono ?_
  rintro e w1 ⟨rfl, hb⟩
  replace BXs := Lib.hid (Blk.below BXs.out hb BXs.out.lt)
  replace BXt := Lib.hid (Blk.below BXt.out hb BXt.out.lt)
  replace BXu := Lib.hid (Blk.below BXu.out hb BXu.out.lt)
  replace Rs := Lib.hid (Rs.out.below hb)
  replace Rt := Lib.hid (Rt.out.below hb)
  replace Ru := Lib.hid (Ru.out.below hb)
  replace BB := Lib.hid (below_next BB.out (by have := BB.out.size; omega) hb)
  clear hb
  obtain ⟨x0, x1, x2, x3, _⟩ := blk4 BXs.out
  have hlx := BXs.out.lt
  go_wp2_with fail
  refine (states_at ⟨se, sA, sn, sc, sl, sA1, sn1, sc1, sv, sA2, sn2, sc2, su⟩ LNs.out SZs.out LBs.out ABs.out UBs.out _ Rs.out qs Qs.out).mono ?_
  rintro e w2 ⟨rfl, hb⟩
  replace BXs := Lib.hid (Blk.below BXs.out hb BXs.out.lt)
  replace BXt := Lib.hid (Blk.below BXt.out hb BXt.out.lt)
  replace BXu := Lib.hid (Blk.below BXu.out hb BXu.out.lt)
  replace Rs := Lib.hid (Rs.out.below hb)
  replace Rt := Lib.hid (Rt.out.below hb)
  replace Ru := Lib.hid (Ru.out.below hb)
  replace BB := Lib.hid (below_next BB.out (by have := BB.out.size; omega) hb)
  clear hb
  clear x0 x1 x2 x3 hlx
  obtain ⟨x0, x1, x2, x3, _⟩ := blk4 BXt.out
  have hlx := BXt.out.lt
  go_wp2_with fail
  refine (states_at ⟨te, tA, tn, tc, tl, tA1, tn1, tc1, tv, tA2, tn2, tc2, tu⟩ LNt.out SZt.out LBt.out ABt.out UBt.out _ Rt.out qt Qt.out).mono ?_
  rintro e w3 ⟨rfl, hb⟩
  replace BXs := Lib.hid (Blk.below BXs.out hb BXs.out.lt)
  replace BXt := Lib.hid (Blk.below BXt.out hb BXt.out.lt)
  replace BXu := Lib.hid (Blk.below BXu.out hb BXu.out.lt)
  replace Rs := Lib.hid (Rs.out.below hb)
  replace Rt := Lib.hid (Rt.out.below hb)
  replace Ru := Lib.hid (Ru.out.below hb)
  replace BB := Lib.hid (below_next BB.out (by have := BB.out.size; omega) hb)
  clear hb
  clear x0 x1 x2 x3 hlx
  obtain ⟨x0, x1, x2, x3, _⟩ := blk4 BXu.out
  have hlx := BXu.out.lt
  go_wp2_with fail
  refine (states_at ⟨ue, uA, un, uc, ul, uA1, un1, uc1, uv, uA2, un2, uc2, uu⟩ LNu.out SZu.out LBu.out ABu.out UBu.out _ Ru.out qu Qu.out).mono ?_
  rintro e w4 ⟨rfl, hb⟩
  replace BXs := Lib.hid (Blk.below BXs.out hb BXs.out.lt)
  replace BXt := Lib.hid (Blk.below BXt.out hb BXt.out.lt)
  replace BXu := Lib.hid (Blk.below BXu.out hb BXu.out.lt)
  replace Rs := Lib.hid (Rs.out.below hb)
  replace Rt := Lib.hid (Rt.out.below hb)
  replace Ru := Lib.hid (Ru.out.below hb)
  replace BB := Lib.hid (below_next BB.out (by have := BB.out.size; omega) hb)
  clear hb
  clear x0 x1 x2 x3 hlx
  by_cases hall : (qs && (qt && qu)) = true
  · simp only [Bool.and_eq_true] at hall
    obtain ⟨rfl, rfl, rfl⟩ := hall
    have OKs := Lib.hid (ok_of Qs.out LNs.out ABs.out UBs.out)
    have OKt := Lib.hid (ok_of Qt.out LNt.out ABt.out UBt.out)
    have OKu := Lib.hid (ok_of Qu.out LNu.out ABu.out UBu.out)
    go_wp2_with fail
    by_cases h1 : Sx.bk ⟨se, sA, sn, sc, sl, sA1, sn1, sc1, sv, sA2, sn2, sc2, su⟩ = Sx.bk ⟨te, tA, tn, tc, tl, tA1, tn1, tc1, tv, tA2, tn2, tc2, tu⟩
    · have H1 := Lib.hid h1
      clear h1
      by_cases h2 : Sx.bk ⟨te, tA, tn, tc, tl, tA1, tn1, tc1, tv, tA2, tn2, tc2, tu⟩ = Sx.bk ⟨ue, uA, un, uc, ul, uA1, un1, uc1, uv, uA2, un2, uc2, uu⟩
      · have H2 := Lib.hid h2
        clear h2
        have C1 := Lib.hid (fun n os => same_st ⟨se, sA, sn, sc, sl, sA1, sn1, sc1, sv, sA2, sn2, sc2, su⟩ ⟨te, tA, tn, tc, tl, tA1, tn1, tc1, tv, tA2, tn2, tc2, tu⟩ LNs.out LNt.out OKs.out.few OKt.out.few (gx w4 n os) (Rs.out.below (below_gx w4 n os)) (Rt.out.below (below_gx w4 n os)) true (decide_eq_true H1.out))
        have C2 := Lib.hid (fun n os => same_st ⟨te, tA, tn, tc, tl, tA1, tn1, tc1, tv, tA2, tn2, tc2, tu⟩ ⟨se, sA, sn, sc, sl, sA1, sn1, sc1, sv, sA2, sn2, sc2, su⟩ LNt.out LNs.out OKt.out.few OKs.out.few (gx w4 n os) (Rt.out.below (below_gx w4 n os)) (Rs.out.below (below_gx w4 n os)) true (decide_eq_true H1.out.symm))
        have C3 := Lib.hid (fun n os => same_st ⟨te, tA, tn, tc, tl, tA1, tn1, tc1, tv, tA2, tn2, tc2, tu⟩ ⟨ue, uA, un, uc, ul, uA1, un1, uc1, uv, uA2, un2, uc2, uu⟩ LNt.out LNu.out OKt.out.few OKu.out.few (gx w4 n os) (Rt.out.below (below_gx w4 n os)) (Ru.out.below (below_gx w4 n os)) true (decide_eq_true H2.out))
        have C4 := Lib.hid (fun n os => same_st ⟨se, sA, sn, sc, sl, sA1, sn1, sc1, sv, sA2, sn2, sc2, su⟩ ⟨ue, uA, un, uc, ul, uA1, un1, uc1, uv, uA2, un2, uc2, uu⟩ LNs.out LNu.out OKs.out.few OKu.out.few (gx w4 n os) (Rs.out.below (below_gx w4 n os)) (Ru.out.below (below_gx w4 n os)) true (decide_eq_true (H1.out.trans H2.out)))
        obtain ⟨qw, hqw⟩ : ∃ q : Bool, q = true ↔ Tb.Right (Sx.bk ⟨se, sA, sn, sc, sl, sA1, sn1, sc1, sv, sA2, sn2, sc2, su⟩) := by
          by_cases h : Tb.Right (Sx.bk ⟨se, sA, sn, sc, sl, sA1, sn1, sc1, sv, sA2, sn2, sc2, su⟩)
          · exact ⟨true, by simp [h]⟩
          · exact ⟨false, by simp [h]⟩
        have QW := Lib.hid hqw
        clear hqw
        have C5 := Lib.hid (fun n os => right_st ⟨se, sA, sn, sc, sl, sA1, sn1, sc1, sv, sA2, sn2, sc2, su⟩ LNs.out OKs.out.few OKs.out.pa OKs.out.pu (gx w4 n os) (Rs.out.below (below_gx w4 n os)) qw QW.out)
        have C6 := Lib.hid (fun n os => right_st ⟨te, tA, tn, tc, tl, tA1, tn1, tc1, tv, tA2, tn2, tc2, tu⟩ LNt.out OKt.out.few OKt.out.pa OKt.out.pu (gx w4 n os) (Rt.out.below (below_gx w4 n os)) qw (by rw [← H1.out]; exact QW.out))
        obtain ⟨s0, s1, s2, s3⟩ := gx4 BXs.out
        obtain ⟨t0, t1, t2, t3⟩ := gx4 BXt.out
        obtain ⟨u0, u1, u2, u3⟩ := gx4 BXu.out
        (refine qb_region mixedT (by kernel_rfl) ?_; (repeat (refine hq_step (fun K hK => ?_); go_simp; first | (refine hK _ ?_; clear hK K) | (apply Exists.intro; refine ⟨fun _ => ?_, hK _ ?_⟩; (first | (go_at_call 32; with_reducible exact calls_gx (C1.out _ _)) | (go_at_call 32; with_reducible exact calls_gx (C2.out _ _)) | (go_at_call 32; with_reducible exact calls_gx (C3.out _ _)) | (go_at_call 32; with_reducible exact calls_gx (C4.out _ _)) | (go_at_call 33; with_reducible exact calls_gx (C5.out _ _)) | (go_at_call 33; with_reducible exact calls_gx (C6.out _ _))); clear hK K))); refine hq_nil ?_; intro _ hw'; obtain ⟨⟨nq, osq⟩, hw''⟩ := hw'; subst hw'')
        clear s0 s1 s2 s3 t0 t1 t2 t3 u0 u1 u2 u3
        have hb := below_gx w4 nq osq
        generalize gx w4 nq osq = w5 at *
        replace BXs := Lib.hid (Blk.below BXs.out hb BXs.out.lt)
        replace BXt := Lib.hid (Blk.below BXt.out hb BXt.out.lt)
        replace BXu := Lib.hid (Blk.below BXu.out hb BXu.out.lt)
        replace Rs := Lib.hid (Rs.out.below hb)
        replace Rt := Lib.hid (Rt.out.below hb)
        replace Ru := Lib.hid (Ru.out.below hb)
        replace BB := Lib.hid (below_next BB.out (by have := BB.out.size; omega) hb)
        clear hb
        clear C1 C2 C3 C4 C5 C6
        obtain ⟨x0, x1, x2, x3, _⟩ := blk4 BXs.out
        have hlx := BXs.out.lt
        go_wp2_with fail
        clear x0 x1 x2 x3 hlx
        refine (copySt_at ⟨se, sA, sn, sc, sl, sA1, sn1, sc1, sv, sA2, sn2, sc2, su⟩ LNs.out OKs.out.few w5 Rs.out).mono ?_
        rintro e w6 ⟨⟨ce, cA, cn, cc, cl, cA1, cn1, cc1, cv, cA2, cn2, cc2, cu⟩, rfl, hcb, hcl, hco, hb⟩
        have Rc := Lib.hid hco.rd
        have LNc := Lib.hid hcl
        have CB := Lib.hid hcb
        clear hco hcl hcb
        replace BXs := Lib.hid (Blk.below BXs.out hb BXs.out.lt)
        replace BXt := Lib.hid (Blk.below BXt.out hb BXt.out.lt)
        replace BXu := Lib.hid (Blk.below BXu.out hb BXu.out.lt)
        replace Rs := Lib.hid (Rs.out.below hb)
        replace Rt := Lib.hid (Rt.out.below hb)
        replace Ru := Lib.hid (Ru.out.below hb)
        replace BB := Lib.hid (below_next BB.out (by have := BB.out.size; omega) hb)
        clear hb
        have hb : Below w6.heap.size w6 (w6.alloc (.cells #[.int .i64 ce, .slice cA cn cc, .slice cA1 cn1 cc1, .slice cA2 cn2 cc2] 52)) := (gr1 w6 _).below
        have BXc := Lib.hid (Blk.new w6 52 #[.int .i64 ce, .slice cA cn cc, .slice cA1 cn1 cc1, .slice cA2 cn2 cc2])
        go_wp2_with fail
        replace BXs := Lib.hid (Blk.below BXs.out hb BXs.out.lt)
        replace BXt := Lib.hid (Blk.below BXt.out hb BXt.out.lt)
        replace BXu := Lib.hid (Blk.below BXu.out hb BXu.out.lt)
        replace Rs := Lib.hid (Rs.out.below hb)
        replace Rt := Lib.hid (Rt.out.below hb)
        replace Ru := Lib.hid (Ru.out.below hb)
        replace BB := Lib.hid (below_next BB.out (by have := BB.out.size; omega) hb)
        replace Rc := Lib.hid (Rc.out.below hb)
        clear hb
        generalize w6.alloc (.cells #[.int .i64 ce, .slice cA cn cc, .slice cA1 cn1 cc1, .slice cA2 cn2 cc2] 52) = w7 at *
        generalize w6.heap.size = p11 at *
        have FWc : Hid (Sx.Few ⟨ce, cA, cn, cc, cl, cA1, cn1, cc1, cv, cA2, cn2, cc2, cu⟩) := few_of (s := ⟨se, sA, sn, sc, sl, sA1, sn1, sc1, sv, sA2, sn2, sc2, su⟩) (t := ⟨ce, cA, cn, cc, cl, cA1, cn1, cc1, cv, cA2, cn2, cc2, cu⟩) OKs.out.few LNs.out Rs.out CB.out LNc.out Rc.out
        have PAc : Hid (PBs cv) := pbs_same (congrArg Bk.av CB.out) OKs.out.pa
        have PUc : Hid (PBs cu) := pbs_same (congrArg Bk.su CB.out) OKs.out.pu
        obtain ⟨qr, hqr⟩ : ∃ q : Bool, q = true ↔ Tb.Right (Sx.bk ⟨se, sA, sn, sc, sl, sA1, sn1, sc1, sv, sA2, sn2, sc2, su⟩) := by
          by_cases h : Tb.Right (Sx.bk ⟨se, sA, sn, sc, sl, sA1, sn1, sc1, sv, sA2, sn2, sc2, su⟩)
          · exact ⟨true, by simp [h]⟩
          · exact ⟨false, by simp [h]⟩
        have QR := Lib.hid hqr
        clear hqr
        have D1 := Lib.hid (fun n os => same_st ⟨se, sA, sn, sc, sl, sA1, sn1, sc1, sv, sA2, sn2, sc2, su⟩ ⟨se, sA, sn, sc, sl, sA1, sn1, sc1, sv, sA2, sn2, sc2, su⟩ LNs.out LNs.out OKs.out.few OKs.out.few (gx w7 n os) (Rs.out.below (below_gx w7 n os)) (Rs.out.below (below_gx w7 n os)) true (decide_eq_true rfl))
        have D2 := Lib.hid (fun n os => same_st ⟨ce, cA, cn, cc, cl, cA1, cn1, cc1, cv, cA2, cn2, cc2, cu⟩ ⟨se, sA, sn, sc, sl, sA1, sn1, sc1, sv, sA2, sn2, sc2, su⟩ LNc.out LNs.out FWc.out OKs.out.few (gx w7 n os) (Rc.out.below (below_gx w7 n os)) (Rs.out.below (below_gx w7 n os)) true (decide_eq_true CB.out))
        have D3 := Lib.hid (fun n os => right_st ⟨ce, cA, cn, cc, cl, cA1, cn1, cc1, cv, cA2, cn2, cc2, cu⟩ LNc.out FWc.out PAc.out PUc.out (gx w7 n os) (Rc.out.below (below_gx w7 n os)) qr (by rw [CB.out]; exact QR.out))
        have D4 := Lib.hid (fun n os => right_st ⟨se, sA, sn, sc, sl, sA1, sn1, sc1, sv, sA2, sn2, sc2, su⟩ LNs.out OKs.out.few OKs.out.pa OKs.out.pu (gx w7 n os) (Rs.out.below (below_gx w7 n os)) qr QR.out)
        obtain ⟨s0, s1, s2, s3⟩ := gx4 BXs.out
        obtain ⟨c0, c1, c2, c3⟩ := gx4 BXc.out
        (refine qb_region mixedT (by kernel_rfl) ?_; (repeat (refine hq_step (fun K hK => ?_); go_simp; first | (refine hK _ ?_; clear hK K) | (apply Exists.intro; refine ⟨fun _ => ?_, hK _ ?_⟩; (first | (go_at_call 32; with_reducible exact calls_gx (D1.out _ _)) | (go_at_call 32; with_reducible exact calls_gx (D2.out _ _)) | (go_at_call 33; with_reducible exact calls_gx (D3.out _ _)) | (go_at_call 33; with_reducible exact calls_gx (D4.out _ _))); clear hK K))); refine hq_nil ?_; intro _ hw'; obtain ⟨⟨nq, osq⟩, hw''⟩ := hw'; subst hw'')
        go_wp2_with fail
        go_ret
        exact ⟨ret_b (by cases qr <;> rfl), below_next BB.out (by have := BB.out.size; omega) (below_gx w7 nq osq)⟩
      · have H2 := Lib.hid h2
        clear h2
        have C1 := Lib.hid (fun n os => same_st ⟨se, sA, sn, sc, sl, sA1, sn1, sc1, sv, sA2, sn2, sc2, su⟩ ⟨te, tA, tn, tc, tl, tA1, tn1, tc1, tv, tA2, tn2, tc2, tu⟩ LNs.out LNt.out OKs.out.few OKt.out.few (gx w4 n os) (Rs.out.below (below_gx w4 n os)) (Rt.out.below (below_gx w4 n os)) true (decide_eq_true H1.out))
        have C2 := Lib.hid (fun n os => same_st ⟨te, tA, tn, tc, tl, tA1, tn1, tc1, tv, tA2, tn2, tc2, tu⟩ ⟨se, sA, sn, sc, sl, sA1, sn1, sc1, sv, sA2, sn2, sc2, su⟩ LNt.out LNs.out OKt.out.few OKs.out.few (gx w4 n os) (Rt.out.below (below_gx w4 n os)) (Rs.out.below (below_gx w4 n os)) true (decide_eq_true H1.out.symm))
        have C3 := Lib.hid (fun n os => same_st ⟨te, tA, tn, tc, tl, tA1, tn1, tc1, tv, tA2, tn2, tc2, tu⟩ ⟨ue, uA, un, uc, ul, uA1, un1, uc1, uv, uA2, un2, uc2, uu⟩ LNt.out LNu.out OKt.out.few OKu.out.few (gx w4 n os) (Rt.out.below (below_gx w4 n os)) (Ru.out.below (below_gx w4 n os)) false (decide_eq_false H2.out))
        obtain ⟨qw, hqw⟩ : ∃ q : Bool, q = true ↔ Tb.Right (Sx.bk ⟨se, sA, sn, sc, sl, sA1, sn1, sc1, sv, sA2, sn2, sc2, su⟩) := by
          by_cases h : Tb.Right (Sx.bk ⟨se, sA, sn, sc, sl, sA1, sn1, sc1, sv, sA2, sn2, sc2, su⟩)
          · exact ⟨true, by simp [h]⟩
          · exact ⟨false, by simp [h]⟩
        have QW := Lib.hid hqw
        clear hqw
        have C5 := Lib.hid (fun n os => right_st ⟨se, sA, sn, sc, sl, sA1, sn1, sc1, sv, sA2, sn2, sc2, su⟩ LNs.out OKs.out.few OKs.out.pa OKs.out.pu (gx w4 n os) (Rs.out.below (below_gx w4 n os)) qw QW.out)
        have C6 := Lib.hid (fun n os => right_st ⟨te, tA, tn, tc, tl, tA1, tn1, tc1, tv, tA2, tn2, tc2, tu⟩ LNt.out OKt.out.few OKt.out.pa OKt.out.pu (gx w4 n os) (Rt.out.below (below_gx w4 n os)) qw (by rw [← H1.out]; exact QW.out))
        obtain ⟨s0, s1, s2, s3⟩ := gx4 BXs.out
        obtain ⟨t0, t1, t2, t3⟩ := gx4 BXt.out
        obtain ⟨u0, u1, u2, u3⟩ := gx4 BXu.out
        (refine qb_region mixedT (by kernel_rfl) ?_; (repeat (refine hq_step (fun K hK => ?_); go_simp; first | (refine hK _ ?_; clear hK K) | (apply Exists.intro; refine ⟨fun _ => ?_, hK _ ?_⟩; (first | (go_at_call 32; with_reducible exact calls_gx (C1.out _ _)) | (go_at_call 32; with_reducible exact calls_gx (C2.out _ _)) | (go_at_call 32; with_reducible exact calls_gx (C3.out _ _)) | (go_at_call 33; with_reducible exact calls_gx (C5.out _ _)) | (go_at_call 33; with_reducible exact calls_gx (C6.out _ _))); clear hK K))); refine hq_nil ?_; intro _ hw'; obtain ⟨⟨nq, osq⟩, hw''⟩ := hw'; subst hw'')
        clear s0 s1 s2 s3 t0 t1 t2 t3 u0 u1 u2 u3
        have hb := below_gx w4 nq osq
        generalize gx w4 nq osq = w5 at *
        replace BXs := Lib.hid (Blk.below BXs.out hb BXs.out.lt)
        replace BXt := Lib.hid (Blk.below BXt.out hb BXt.out.lt)
        replace BXu := Lib.hid (Blk.below BXu.out hb BXu.out.lt)
        replace Rs := Lib.hid (Rs.out.below hb)
        replace Rt := Lib.hid (Rt.out.below hb)
        replace Ru := Lib.hid (Ru.out.below hb)
        replace BB := Lib.hid (below_next BB.out (by have := BB.out.size; omega) hb)
        clear hb
        clear C1 C2 C3 C5 C6
        obtain ⟨x0, x1, x2, x3, _⟩ := blk4 BXs.out
        have hlx := BXs.out.lt
        go_wp2_with fail
        clear x0 x1 x2 x3 hlx
        refine (copySt_at ⟨se, sA, sn, sc, sl, sA1, sn1, sc1, sv, sA2, sn2, sc2, su⟩ LNs.out OKs.out.few w5 Rs.out).mono ?_
        rintro e w6 ⟨⟨ce, cA, cn, cc, cl, cA1, cn1, cc1, cv, cA2, cn2, cc2, cu⟩, rfl, hcb, hcl, hco, hb⟩
        have Rc := Lib.hid hco.rd
        have LNc := Lib.hid hcl
        have CB := Lib.hid hcb
        clear hco hcl hcb
        replace BXs := Lib.hid (Blk.below BXs.out hb BXs.out.lt)
        replace BXt := Lib.hid (Blk.below BXt.out hb BXt.out.lt)
        replace BXu := Lib.hid (Blk.below BXu.out hb BXu.out.lt)
        replace Rs := Lib.hid (Rs.out.below hb)
        replace Rt := Lib.hid (Rt.out.below hb)
        replace Ru := Lib.hid (Ru.out.below hb)
        replace BB := Lib.hid (below_next BB.out (by have := BB.out.size; omega) hb)
        clear hb
        have hb : Below w6.heap.size w6 (w6.alloc (.cells #[.int .i64 ce, .slice cA cn cc, .slice cA1 cn1 cc1, .slice cA2 cn2 cc2] 52)) := (gr1 w6 _).below
        have BXc := Lib.hid (Blk.new w6 52 #[.int .i64 ce, .slice cA cn cc, .slice cA1 cn1 cc1, .slice cA2 cn2 cc2])
        go_wp2_with fail
        replace BXs := Lib.hid (Blk.below BXs.out hb BXs.out.lt)
        replace BXt := Lib.hid (Blk.below BXt.out hb BXt.out.lt)
        replace BXu := Lib.hid (Blk.below BXu.out hb BXu.out.lt)
        replace Rs := Lib.hid (Rs.out.below hb)
        replace Rt := Lib.hid (Rt.out.below hb)
        replace Ru := Lib.hid (Ru.out.below hb)
        replace BB := Lib.hid (below_next BB.out (by have := BB.out.size; omega) hb)
        replace Rc := Lib.hid (Rc.out.below hb)
        clear hb
        generalize w6.alloc (.cells #[.int .i64 ce, .slice cA cn cc, .slice cA1 cn1 cc1, .slice cA2 cn2 cc2] 52) = w7 at *
        generalize w6.heap.size = p11 at *
        have FWc : Hid (Sx.Few ⟨ce, cA, cn, cc, cl, cA1, cn1, cc1, cv, cA2, cn2, cc2, cu⟩) := few_of (s := ⟨se, sA, sn, sc, sl, sA1, sn1, sc1, sv, sA2, sn2, sc2, su⟩) (t := ⟨ce, cA, cn, cc, cl, cA1, cn1, cc1, cv, cA2, cn2, cc2, cu⟩) OKs.out.few LNs.out Rs.out CB.out LNc.out Rc.out
        have PAc : Hid (PBs cv) := pbs_same (congrArg Bk.av CB.out) OKs.out.pa
        have PUc : Hid (PBs cu) := pbs_same (congrArg Bk.su CB.out) OKs.out.pu
        obtain ⟨qr, hqr⟩ : ∃ q : Bool, q = true ↔ Tb.Right (Sx.bk ⟨se, sA, sn, sc, sl, sA1, sn1, sc1, sv, sA2, sn2, sc2, su⟩) := by
          by_cases h : Tb.Right (Sx.bk ⟨se, sA, sn, sc, sl, sA1, sn1, sc1, sv, sA2, sn2, sc2, su⟩)
          · exact ⟨true, by simp [h]⟩
          · exact ⟨false, by simp [h]⟩
        have QR := Lib.hid hqr
        clear hqr
        have D1 := Lib.hid (fun n os => same_st ⟨se, sA, sn, sc, sl, sA1, sn1, sc1, sv, sA2, sn2, sc2, su⟩ ⟨se, sA, sn, sc, sl, sA1, sn1, sc1, sv, sA2, sn2, sc2, su⟩ LNs.out LNs.out OKs.out.few OKs.out.few (gx w7 n os) (Rs.out.below (below_gx w7 n os)) (Rs.out.below (below_gx w7 n os)) true (decide_eq_true rfl))
        have D2 := Lib.hid (fun n os => same_st ⟨ce, cA, cn, cc, cl, cA1, cn1, cc1, cv, cA2, cn2, cc2, cu⟩ ⟨se, sA, sn, sc, sl, sA1, sn1, sc1, sv, sA2, sn2, sc2, su⟩ LNc.out LNs.out FWc.out OKs.out.few (gx w7 n os) (Rc.out.below (below_gx w7 n os)) (Rs.out.below (below_gx w7 n os)) true (decide_eq_true CB.out))
        have D3 := Lib.hid (fun n os => right_st ⟨ce, cA, cn, cc, cl, cA1, cn1, cc1, cv, cA2, cn2, cc2, cu⟩ LNc.out FWc.out PAc.out PUc.out (gx w7 n os) (Rc.out.below (below_gx w7 n os)) qr (by rw [CB.out]; exact QR.out))
        have D4 := Lib.hid (fun n os => right_st ⟨se, sA, sn, sc, sl, sA1, sn1, sc1, sv, sA2, sn2, sc2, su⟩ LNs.out OKs.out.few OKs.out.pa OKs.out.pu (gx w7 n os) (Rs.out.below (below_gx w7 n os)) qr QR.out)
        obtain ⟨s0, s1, s2, s3⟩ := gx4 BXs.out
        obtain ⟨c0, c1, c2, c3⟩ := gx4 BXc.out
        (refine qb_region mixedT (by kernel_rfl) ?_; (repeat (refine hq_step (fun K hK => ?_); go_simp; first | (refine hK _ ?_; clear hK K) | (apply Exists.intro; refine ⟨fun _ => ?_, hK _ ?_⟩; (first | (go_at_call 32; with_reducible exact calls_gx (D1.out _ _)) | (go_at_call 32; with_reducible exact calls_gx (D2.out _ _)) | (go_at_call 33; with_reducible exact calls_gx (D3.out _ _)) | (go_at_call 33; with_reducible exact calls_gx (D4.out _ _))); clear hK K))); refine hq_nil ?_; intro _ hw'; obtain ⟨⟨nq, osq⟩, hw''⟩ := hw'; subst hw'')
        go_wp2_with fail
        go_ret
        exact ⟨ret_b (by cases qr <;> rfl), below_next BB.out (by have := BB.out.size; omega) (below_gx w7 nq osq)⟩
    · have H1 := Lib.hid h1
      clear h1
      have C1 := Lib.hid (fun n os => same_st ⟨se, sA, sn, sc, sl, sA1, sn1, sc1, sv, sA2, sn2, sc2, su⟩ ⟨te, tA, tn, tc, tl, tA1, tn1, tc1, tv, tA2, tn2, tc2, tu⟩ LNs.out LNt.out OKs.out.few OKt.out.few (gx w4 n os) (Rs.out.below (below_gx w4 n os)) (Rt.out.below (below_gx w4 n os)) false (decide_eq_false H1.out))
      have C2 := Lib.hid (fun n os => same_st ⟨te, tA, tn, tc, tl, tA1, tn1, tc1, tv, tA2, tn2, tc2, tu⟩ ⟨se, sA, sn, sc, sl, sA1, sn1, sc1, sv, sA2, sn2, sc2, su⟩ LNt.out LNs.out OKt.out.few OKs.out.few (gx w4 n os) (Rt.out.below (below_gx w4 n os)) (Rs.out.below (below_gx w4 n os)) false (decide_eq_false (fun e => H1.out e.symm)))
      obtain ⟨s0, s1, s2, s3⟩ := gx4 BXs.out
      obtain ⟨t0, t1, t2, t3⟩ := gx4 BXt.out
      obtain ⟨u0, u1, u2, u3⟩ := gx4 BXu.out
      (refine qb_region mixedT (by kernel_rfl) ?_; (repeat (refine hq_step (fun K hK => ?_); go_simp; first | (refine hK _ ?_; clear hK K) | (apply Exists.intro; refine ⟨fun _ => ?_, hK _ ?_⟩; (first | (go_at_call 32; with_reducible exact calls_gx (C1.out _ _)) | (go_at_call 32; with_reducible exact calls_gx (C2.out _ _))); clear hK K))); refine hq_nil ?_; intro _ hw'; obtain ⟨⟨nq, osq⟩, hw''⟩ := hw'; subst hw'')
      clear s0 s1 s2 s3 t0 t1 t2 t3 u0 u1 u2 u3
      have hb := below_gx w4 nq osq
      generalize gx w4 nq osq = w5 at *
      replace BXs := Lib.hid (Blk.below BXs.out hb BXs.out.lt)
      replace BXt := Lib.hid (Blk.below BXt.out hb BXt.out.lt)
      replace BXu := Lib.hid (Blk.below BXu.out hb BXu.out.lt)
      replace Rs := Lib.hid (Rs.out.below hb)
      replace Rt := Lib.hid (Rt.out.below hb)
      replace Ru := Lib.hid (Ru.out.below hb)
      replace BB := Lib.hid (below_next BB.out (by have := BB.out.size; omega) hb)
      clear hb
      clear C1 C2
      obtain ⟨x0, x1, x2, x3, _⟩ := blk4 BXs.out
      have hlx := BXs.out.lt
      go_wp2_with fail
      clear x0 x1 x2 x3 hlx
      refine (copySt_at ⟨se, sA, sn, sc, sl, sA1, sn1, sc1, sv, sA2, sn2, sc2, su⟩ LNs.out OKs.out.few w5 Rs.out).mono ?_
      rintro e w6 ⟨⟨ce, cA, cn, cc, cl, cA1, cn1, cc1, cv, cA2, cn2, cc2, cu⟩, rfl, hcb, hcl, hco, hb⟩
      have Rc := Lib.hid hco.rd
      have LNc := Lib.hid hcl
      have CB := Lib.hid hcb
      clear hco hcl hcb
      replace BXs := Lib.hid (Blk.below BXs.out hb BXs.out.lt)
      replace BXt := Lib.hid (Blk.below BXt.out hb BXt.out.lt)
      replace BXu := Lib.hid (Blk.below BXu.out hb BXu.out.lt)
      replace Rs := Lib.hid (Rs.out.below hb)
      replace Rt := Lib.hid (Rt.out.below hb)
      replace Ru := Lib.hid (Ru.out.below hb)
      replace BB := Lib.hid (below_next BB.out (by have := BB.out.size; omega) hb)
      clear hb
      have hb : Below w6.heap.size w6 (w6.alloc (.cells #[.int .i64 ce, .slice cA cn cc, .slice cA1 cn1 cc1, .slice cA2 cn2 cc2] 52)) := (gr1 w6 _).below
      have BXc := Lib.hid (Blk.new w6 52 #[.int .i64 ce, .slice cA cn cc, .slice cA1 cn1 cc1, .slice cA2 cn2 cc2])
      go_wp2_with fail
      replace BXs := Lib.hid (Blk.below BXs.out hb BXs.out.lt)
      replace BXt := Lib.hid (Blk.below BXt.out hb BXt.out.lt)
      replace BXu := Lib.hid (Blk.below BXu.out hb BXu.out.lt)
      replace Rs := Lib.hid (Rs.out.below hb)
      replace Rt := Lib.hid (Rt.out.below hb)
      replace Ru := Lib.hid (Ru.out.below hb)
      replace BB := Lib.hid (below_next BB.out (by have := BB.out.size; omega) hb)
      replace Rc := Lib.hid (Rc.out.below hb)
      clear hb
      generalize w6.alloc (.cells #[.int .i64 ce, .slice cA cn cc, .slice cA1 cn1 cc1, .slice cA2 cn2 cc2] 52) = w7 at *
      generalize w6.heap.size = p11 at *
      have FWc : Hid (Sx.Few ⟨ce, cA, cn, cc, cl, cA1, cn1, cc1, cv, cA2, cn2, cc2, cu⟩) := few_of (s := ⟨se, sA, sn, sc, sl, sA1, sn1, sc1, sv, sA2, sn2, sc2, su⟩) (t := ⟨ce, cA, cn, cc, cl, cA1, cn1, cc1, cv, cA2, cn2, cc2, cu⟩) OKs.out.few LNs.out Rs.out CB.out LNc.out Rc.out
      have PAc : Hid (PBs cv) := pbs_same (congrArg Bk.av CB.out) OKs.out.pa
      have PUc : Hid (PBs cu) := pbs_same (congrArg Bk.su CB.out) OKs.out.pu
      obtain ⟨qr, hqr⟩ : ∃ q : Bool, q = true ↔ Tb.Right (Sx.bk ⟨se, sA, sn, sc, sl, sA1, sn1, sc1, sv, sA2, sn2, sc2, su⟩) := by
        by_cases h : Tb.Right (Sx.bk ⟨se, sA, sn, sc, sl, sA1, sn1, sc1, sv, sA2, sn2, sc2, su⟩)
        · exact ⟨true, by simp [h]⟩
        · exact ⟨false, by simp [h]⟩
      have QR := Lib.hid hqr
      clear hqr
      have D1 := Lib.hid (fun n os => same_st ⟨se, sA, sn, sc, sl, sA1, sn1, sc1, sv, sA2, sn2, sc2, su⟩ ⟨se, sA, sn, sc, sl, sA1, sn1, sc1, sv, sA2, sn2, sc2, su⟩ LNs.out LNs.out OKs.out.few OKs.out.few (gx w7 n os) (Rs.out.below (below_gx w7 n os)) (Rs.out.below (below_gx w7 n os)) true (decide_eq_true rfl))
      have D2 := Lib.hid (fun n os => same_st ⟨ce, cA, cn, cc, cl, cA1, cn1, cc1, cv, cA2, cn2, cc2, cu⟩ ⟨se, sA, sn, sc, sl, sA1, sn1, sc1, sv, sA2, sn2, sc2, su⟩ LNc.out LNs.out FWc.out OKs.out.few (gx w7 n os) (Rc.out.below (below_gx w7 n os)) (Rs.out.below (below_gx w7 n os)) true (decide_eq_true CB.out))
      have D3 := Lib.hid (fun n os => right_st ⟨ce, cA, cn, cc, cl, cA1, cn1, cc1, cv, cA2, cn2, cc2, cu⟩ LNc.out FWc.out PAc.out PUc.out (gx w7 n os) (Rc.out.below (below_gx w7 n os)) qr (by rw [CB.out]; exact QR.out))
      have D4 := Lib.hid (fun n os => right_st ⟨se, sA, sn, sc, sl, sA1, sn1, sc1, sv, sA2, sn2, sc2, su⟩ LNs.out OKs.out.few OKs.out.pa OKs.out.pu (gx w7 n os) (Rs.out.below (below_gx w7 n os)) qr QR.out)
      obtain ⟨s0, s1, s2, s3⟩ := gx4 BXs.out
      obtain ⟨c0, c1, c2, c3⟩ := gx4 BXc.out
      (refine qb_region mixedT (by kernel_rfl) ?_; (repeat (refine hq_step (fun K hK => ?_); go_simp; first | (refine hK _ ?_; clear hK K) | (apply Exists.intro; refine ⟨fun _ => ?_, hK _ ?_⟩; (first | (go_at_call 32; with_reducible exact calls_gx (D1.out _ _)) | (go_at_call 32; with_reducible exact calls_gx (D2.out _ _)) | (go_at_call 33; with_reducible exact calls_gx (D3.out _ _)) | (go_at_call 33; with_reducible exact calls_gx (D4.out _ _))); clear hK K))); refine hq_nil ?_; intro _ hw'; obtain ⟨⟨nq, osq⟩, hw''⟩ := hw'; subst hw'')
      go_wp2_with fail
      go_ret
      exact ⟨ret_b (by cases qr <;> rfl), below_next BB.out (by have := BB.out.size; omega) (below_gx w7 nq osq)⟩
  · clear Qs Qt Qu
    cases qs <;> cases qt <;> cases qu
    all_goals first
      | exact absurd rfl hall
      | (clear hall
         go_wp2_with fail
         go_ret
         exact ⟨rfl, BB.out⟩)

/-! ### The row's step. -/
namespace tableSame
theorem own : ownKnob Tryz.prog.godebug = none := by kernel_rfl
theorem laidOut : laidOutB Tryz.prog = true := by kernel_rfl
set_option linter.unusedVariables false in
set_option maxRecDepth 100000 in
theorem lifted (os : Os) (started : os.Started) (H : Type) (enc : TypeId × Value → H) :
    ReturnsInHanded {} Tryz.checked os 5 .any (Rows.tableSameSpec.pre6 enc Tryz.prog Tryz.f5 Rows.tableSameRow.domain false) (Rows.tableSameSpec.post enc Tryz.prog Tryz.f5 false true false false) := by
  refine returnsInHanded_of_change_sized (C := Tryz.checked) own started (by kernel_rfl) Tryz.func5
    (ChangeSpec.witness6 (enc := enc) (C := Tryz.checked) false ⟨#[], #[.agg #[.int .i64 0, .slice none 0 0, .slice none 0 0, .slice none 0 0], .agg #[.int .i64 0, .slice none 0 0, .slice none 0 0, .slice none 0 0], .agg #[.int .i64 0, .slice none 0 0, .slice none 0 0, .slice none 0 0]], []⟩ 8 (by kernel_rfl) (by kernel_rfl) (by kernel_rfl) (by kernel_rfl)) ?_
  intro W base args ds gs before hval0 hW hcnd hsz0 _
  have hval : ∀ (j : Nat) t v, Tryz.f5.params[j]? = some t → args[j]? = some v → Value.okWide Tryz.prog W .any base t v := hval0
  have hsz : (DataW.weightsEach Tryz.prog (Tryz.f5.params.toList ++ Rows.tableSameSpec.plain.varTypes Tryz.prog) (ds ++ gs)).all (· ≤ reachBytes) = true := hsz0
  have hW' := hW
  obtain ⟨p, q, hA0, hV, rfl, hfz, hnd⟩ := hW
  have hA : DataW.TrodAll enc Tryz.prog W 0 (fun _ => true) true Tryz.f5.params.toList args.toList ds p := hA0
  rw [Tryz.params5] at hA hval hsz
  obtain ⟨v0, vs0, d0, ds0, p0, q0, hargs, rfl, rfl, h0, r0⟩ := trodAll_cons hA
  obtain ⟨v1, vs1, d1, ds1, p1, q1, rfl, rfl, rfl, h1, r1⟩ := trodAll_cons r0
  obtain ⟨v2, vs2, d2, ds2, p2, q2, rfl, rfl, rfl, h2, r2⟩ := trodAll_cons r1
  obtain ⟨rfl, rfl, rfl⟩ := trodAll_nil r2
  obtain rfl : args = #[v0, v1, v2] := by cases args; simp_all
  obtain ⟨rfl, rfl⟩ := trodVars_none hV
  obtain ⟨s0, rfl, ln0, rs0, we0, cp0, sz0, lb0, ab0, ub0⟩ := open_state (hval 0 52 v0 rfl rfl) h0 (fun n hn => by simpa using List.all_eq_true.1 hsz n (DataW.weights_mem_each (j := 0) rfl rfl n hn))
  have k0 := h0
  have lt0 : ∀ x ∈ p0, x.block < W.heap.size := by obtain ⟨m, hm⟩ := k0; exact DataW.trod_lt m _ _ _ hm
  obtain ⟨s1, rfl, ln1, rs1, we1, cp1, sz1, lb1, ab1, ub1⟩ := open_state (hval 1 52 v1 rfl rfl) h1 (fun n hn => by simpa using List.all_eq_true.1 hsz n (DataW.weights_mem_each (j := 1) rfl rfl n hn))
  have k1 := h1
  have lt1 : ∀ x ∈ p1, x.block < W.heap.size := by obtain ⟨m, hm⟩ := k1; exact DataW.trod_lt m _ _ _ hm
  obtain ⟨s2, rfl, ln2, rs2, we2, cp2, sz2, lb2, ab2, ub2⟩ := open_state (hval 2 52 v2 rfl rfl) h2 (fun n hn => by simpa using List.all_eq_true.1 hsz n (DataW.weights_mem_each (j := 2) rfl rfl n hn))
  have k2 := h2
  have lt2 : ∀ x ∈ p2, x.block < W.heap.size := by obtain ⟨m, hm⟩ := k2; exact DataW.trod_lt m _ _ _ hm
  clear hA0 hval0
  refine (walk_TableSame W s0 ln0 rs0 we0 cp0 sz0 lb0 ab0 ub0 s1 ln1 rs1 we1 cp1 sz1 lb1 ab1 ub1 s2 ln2 rs2 we2 cp2 sz2 lb2 ab2 ub2).mono fun e W' ⟨he, bel⟩ => ?_
  subst he
  exact ⟨_, rfl, _, _, _, [], _, [], hW', trodAll_mk1 (shut_bool Tryz.underlying4 _), (trodAll_cons_mk (Below.trod laidOut (by kernel_rfl) (of_decide_eq_true (by kernel_rfl)) k0 bel lt0) (trodAll_cons_mk (Below.trod laidOut (by kernel_rfl) (of_decide_eq_true (by kernel_rfl)) k1 bel lt1) (trodAll_cons_mk (Below.trod laidOut (by kernel_rfl) (of_decide_eq_true (by kernel_rfl)) k2 bel lt2) trodAll_mk0))), rfl, bel.frame _, fun h => by cases h⟩
theorem over : Rows.tableSameRow.holds Tryz.pinned (OpenSpec.ofChange Rows.tableSameSpec) :=
  OpenClaim.holds_of_wide 5 Tryz.f5 rfl rfl rfl rfl rfl rfl rfl ⟨rfl, rfl, rfl, rfl, rfl⟩ rfl rfl rfl rfl rfl (by kernel_rfl) Tryz.func5 (by kernel_rfl)
    (of_decide_eq_true (by kernel_rfl)) (by unfold Func.isWrapper; first | (rw [if_pos (by decide +kernel)]; kernel_rfl) | (rw [if_neg (by decide +kernel)]; exact ⟨rfl, rfl⟩))
    (fun os started H enc _ => lifted os started H enc)
end tableSame
/-- THE STATEMENT. -/
theorem tableSame_holds : Rows.TableSameSaid := tableSame.over
#print axioms tableSame_holds
end Go.Proofs.YtoffnfooeojhnaaGreat
