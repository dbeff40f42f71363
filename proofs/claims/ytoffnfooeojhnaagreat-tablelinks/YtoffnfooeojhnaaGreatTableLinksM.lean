/-
  The neighbours of a right state's entries are there, and it is not right without one of these: for every state and every place the call of the law answers true, and all arguments read behind it as they read before. No condition.
-/
import Derived.Test.YtoffnfooeojhnaaGreatM11
namespace Go.Proofs.YtoffnfooeojhnaaGreat
open Go.RowKit Go.ChangeShapes Go.WideShapes Go.ChangeAt Go.Sort Spans Tb
set_option maxRecDepth 100000 in
set_option maxHeartbeats 8000000 in
theorem walk_TableLinks (w : World) (s : Sx) (lns : s.Len) (rss : s.Rd w) (wes : -9223372036854775808 ≤ s.ep ∧ s.ep ≤ 9223372036854775807) (cps : s.c ≤ maxLen ∧ s.c1 ≤ maxLen ∧ s.c2 ≤ maxLen) (szs : s.n ≤ 5900000000000 ∧ s.n1 ≤ 3600000000000 ∧ s.n2 ≤ 3600000000000) (lbs : LBx s.ls) (abs : EBx s.av) (ubs : EBx s.su) (k : Int) (hwk : (Lit.int .i64 k).wf = true) :
    Calls Tryz.prog 7 #[s.v, .int .i64 k] w fun e w' => e = .returned (.bool true) ∧ Below w.heap.size w w' := by
  obtain ⟨se, sA, sn, sc, sl, sA1, sn1, sc1, sv, sA2, sn2, sc2, su⟩ := s
  have LNs := Lib.hid lns
  have LBs := Lib.hid lbs
  have ABs := Lib.hid abs
  have UBs := Lib.hid ubs
  have SZs := Lib.hid szs
  have hb0 := (gr1 w (.cells #[.int .i64 se, .slice sA sn sc, .slice sA1 sn1 sc1, .slice sA2 sn2 sc2] 52)).below
  have BXs := Lib.hid (Blk.new w 52 #[.int .i64 se, .slice sA sn sc, .slice sA1 sn1 sc1, .slice sA2 sn2 sc2])
  have R0 := Lib.hid rss
  have BB := Lib.hid hb0
  obtain ⟨qs, hqs⟩ : ∃ q, statesB ⟨se, sA, sn, sc, sl, sA1, sn1, sc1, sv, sA2, sn2, sc2, su⟩ = q := ⟨_, rfl⟩
  have Qs := Lib.hid hqs
  have hkb := bounds_of hwk
  clear hb0 hqs hwk lns rss wes cps szs lbs abs ubs
  go_enter Tryz.func7, Tryz.ntmps7
  go_wp2_with fail
  generalize w.alloc (.cells #[.int .i64 se, .slice sA sn sc, .slice sA1 sn1 sc1, .slice sA2 sn2 sc2] 52) = w0 at *
  refine (tsmall_at w0).mono ?_
  rintro e w1 ⟨rfl, hb⟩
  replace BXs := Lib.hid (Blk.below BXs.out hb BXs.out.lt)
  replace BB := Lib.hid (below_next BB.out (by have := BB.out.size; omega) hb)
  clear hb
  obtain ⟨x0, x1, x2, x3, _⟩ := blk4 BXs.out
  have hlx := BXs.out.lt
  go_wp2_with fail
  refine (states_at ⟨se, sA, sn, sc, sl, sA1, sn1, sc1, sv, sA2, sn2, sc2, su⟩ LNs.out SZs.out LBs.out ABs.out UBs.out _ (R0.out.below BB.out) qs Qs.out).mono ?_
  rintro e w2 ⟨rfl, hb⟩
  replace BXs := Lib.hid (Blk.below BXs.out hb BXs.out.lt)
  replace BB := Lib.hid (below_next BB.out (by have := BB.out.size; omega) hb)
  clear hb
  clear x0 x1 x2 x3 hlx
  obtain ⟨x0, x1, x2, x3, _⟩ := blk4 BXs.out
  have hlx := BXs.out.lt
  cases qs with
  | false =>
    go_wp2_with fail
    go_ret
    exact ⟨rfl, BB.out⟩
  | true =>
    have OKs := Lib.hid (ok_of Qs.out LNs.out ABs.out UBs.out)
    by_cases hk0 : k < 0
    · have d0 : decide (k < 0) = true := decide_eq_true hk0
      go_wp2_with fail
      go_ret
      exact ⟨rfl, BB.out⟩
    · have d0 : decide (k < 0) = false := decide_eq_false hk0
      by_cases hk1 : (sn : Int) ≤ k
      · have d1 : decide ((sn : Int) ≤ k) = true := decide_eq_true hk1
        go_wp2_with fail
        go_ret
        exact ⟨rfl, BB.out⟩
      · have d1 : decide ((sn : Int) ≤ k) = false := decide_eq_false hk1
        obtain ⟨j, rfl⟩ : ∃ j : Nat, k = (j : Int) := ⟨k.toNat, by omega⟩
        have hj : j < sn := by omega
        have hj1 : j + 1 ≤ sn := hj
        have d2 : decide (sn ≤ j) = false := decide_eq_false (by omega)
        clear hk0 hk1
        obtain ⟨qr, hqr⟩ : ∃ q : Bool, q = true ↔ Tb.Right (Sx.bk ⟨se, sA, sn, sc, sl, sA1, sn1, sc1, sv, sA2, sn2, sc2, su⟩) := by
          by_cases h : Tb.Right (Sx.bk ⟨se, sA, sn, sc, sl, sA1, sn1, sc1, sv, sA2, sn2, sc2, su⟩)
          · exact ⟨true, by simp [h]⟩
          · exact ⟨false, by simp [h]⟩
        have QR := Lib.hid hqr
        clear hqr
        go_wp2_with fail
        refine (right_st ⟨se, sA, sn, sc, sl, sA1, sn1, sc1, sv, sA2, sn2, sc2, su⟩ LNs.out OKs.out.few OKs.out.pa OKs.out.pu _ (R0.out.below BB.out) qr QR.out).mono ?_
        rintro e w3 ⟨rfl, hb⟩
        replace BXs := Lib.hid (Blk.below BXs.out hb BXs.out.lt)
        replace BB := Lib.hid (below_next BB.out (by have := BB.out.size; omega) hb)
        clear hb
        clear x0 x1 x2 x3 hlx
        cases qr with
        | false =>
          go_wp2_with fail
          go_ret
          exact ⟨rfl, BB.out⟩
        | true =>
          have RR : Hid (Tb.Right ⟨se, sl, sv.map Ex.en, su.map Ex.en⟩) := QR.out.1 (by simp)
          clear QR d0 d1
          have hn : sl.length = sn := LNs.out.n
          have hc : sn ≤ sc := LNs.out.c
          have hn1 : sv.length = sn1 := LNs.out.n1
          have hn2 : su.length = sn2 := LNs.out.n2
          have hs30 : sn ≤ 30 := OKs.out.n
          have hs80 : sn1 ≤ 80 := OKs.out.n1
          have hs81 : sn2 ≤ 80 := OKs.out.n2
          have hjl : j < sl.length := by rw [hn]; exact hj
          obtain ⟨g, off, hA, hg, l0, _⟩ := RdLk.at2 R0.out.ls hjl
          dsimp only at hA l0
          subst hA
          obtain ⟨lk, hlk⟩ : ∃ lk, sl[j].id = lk := ⟨_, rfl⟩
          have HLK := Lib.hid hlk
          rw [hlk] at l0
          clear hlk
          have hw9 : (j : Int) < (sn : Int) := by omega
          go_wp2_with fail
          go_loopg [7, 8] sn2 (fun gg sU sI wr => ∃ (i : Nat) (ub : Bool), i ≤ sn2 ∧ sn2 - i ≤ gg ∧ sI = .int .i64 (i : Int) ∧ sU = .bool ub ∧ Hid (ub = (anyFr (su.take i) lk)) ∧ Hid (Below w.heap.size w wr) ∧ Hid (Blk wr w.heap.size 52 #[.int .i64 se, .slice (some ⟨g, off, none⟩) sn sc, .slice sA1 sn1 sc1, .slice sA2 sn2 sc2]))
          case atStart => exact ⟨0, false, Nat.zero_le _, by omega, rfl, rfl, rfl, BB, BXs⟩
          case round =>
            clear BB BXs
            obtain ⟨i, ub, hi, hgg, rfl, rfl, HU, BB, BXs⟩ := hrel
            obtain ⟨x0, x1, x2, x3, _⟩ := blk4 BXs.out
            have hlx := BXs.out.lt
            by_cases hlt : i < sn2
            · have hil : i < su.length := by rw [hn2]; exact hlt
              obtain ⟨g1, off1, hA3, hg1, e0, e1, e2, hfi⟩ := RdEn.at3 R0.out.su hil
              dsimp only at hA3 e0 e1 e2
              have w6' : (i : Int) < (sn2 : Int) := by omega
              obtain ⟨z, hz⟩ : ∃ z, su[i] = z := ⟨_, rfl⟩
              have HZ := Lib.hid hz
              rw [hz] at e0 e1 e2 hfi
              clear hz
              obtain ⟨zi, zr, zA, zn, zc, zf⟩ := z
              dsimp only at e0 e1 e2
              clear e0 e2 hfi
              go_wp2_with fail
              clear x0 x1 x2 x3 hlx
              have HU2 : Hid ((ub || decide (zr = lk)) = (anyFr (su.take (i + 1)) lk)) := by
                show _ = _
                rw [HU.out, anyFr_snoc hil, HZ.out]
              subst hA3
              obtain ⟨b0, b1, b2, b3⟩ := gx4 BXs.out
              have k1 := gx_cell ((BB.out.cell (p := ⟨g1, off1 + i * 3 + 1, none⟩) hg1).trans e1)
              have kl := gx_cell ((BB.out.cell (p := ⟨g, off + j * 2, none⟩) hg).trans l0)
              have HV : Hid ((decide (zr = lk)) = (zr == lk)) := by show _ = _; by_cases h : zr = lk <;> simp [h]
              cases ub with
              | false =>
                obtain ⟨ue, hue⟩ : ∃ ue, (zr == lk) = ue := ⟨_, rfl⟩
                have HU3 : Hid (ue = (anyFr (su.take (i + 1)) lk)) := by show _ = _; rw [← HU2.out, HV.out, hue]; rfl
                (refine qb_region mixedT (by kernel_rfl) ?_; (repeat (refine hq_step (fun K hK => ?_); go_simp; first | (refine hK _ ?_; clear hK K) | (apply Exists.intro; refine ⟨fun _ => ?_, hK _ ?_⟩; (fail); clear hK K))); refine hq_nil ?_; intro _ hw'; obtain ⟨⟨nq, osq⟩, hw''⟩ := hw'; subst hw'')
                clear b0 b1 b2 b3 k1 kl
                have hb := below_gx wr nq osq
                generalize gx wr nq osq = w5 at *
                replace BXs := Lib.hid (Blk.below BXs.out hb BXs.out.lt)
                replace BB := Lib.hid (below_next BB.out (by have := BB.out.size; omega) hb)
                clear hb
                have LKD : Hid ((findL sl zr).isSome = true) := by
                  refine findL_some.2 ?_
                  exact (RR.out.su.2.2 ⟨zi, zr, zf⟩ (List.mem_map.2 ⟨_, List.getElem_mem hil, by rw [HZ.out]⟩)).1
                obtain ⟨r, hr⟩ : ∃ r, findL sl zr = r := ⟨_, rfl⟩
                have HRR := Lib.hid hr
                rw [hr] at LKD
                clear hr
                go_wp2_with fail
                have hS0 : Blk w5.drew w.heap.size 52 #[.int .i64 se, .slice (some ⟨g, off, none⟩) sn sc, .slice sA1 sn1 sc1, .slice (some ⟨g1, off1, none⟩) sn2 sc2] ∧ w5.drew.cell? ⟨g1, off1 + i * 3 + 1, none⟩ = some (.int .i64 zr) := ⟨BXs.out, (BB.out.cell (p := ⟨g1, off1 + i * 3 + 1, none⟩) hg1).trans e1⟩
                refine wp_region_held_drew (S := fun w' => Blk w' w.heap.size 52 #[.int .i64 se, .slice (some ⟨g, off, none⟩) sn sc, .slice sA1 sn1 sc1, .slice (some ⟨g1, off1, none⟩) sn2 sc2] ∧ w'.cell? ⟨g1, off1 + i * 3 + 1, none⟩ = some (.int .i64 zr)) (by kernel_rfl) hS0 (fun _ => ?_)
                refine wpAnyH_yes (i := 0) (d := 59) (v := ?_) rfl rfl (by kernel_rfl) (by kernel_rfl) (by kernel_rfl) (fun _ _ _ h => h) (by rfl) ?_ hS0 ?_
                rotate_left
                · intro w' hSw; obtain ⟨r0, r1, r2, r3, _⟩ := blk4 hSw.1; have r4 := hSw.2; go_simp <;> with_reducible rfl
                simp only [Act.put, List.setIfInBounds_toArray, List.set_cons_zero, List.set_cons_succ]
                refine wpAnyH_yes (i := 1) (d := 60) (v := ?_) rfl rfl (by kernel_rfl) (by kernel_rfl) (by kernel_rfl) (fun _ _ _ h => h) (by rfl) ?_ hS0 ?_
                rotate_left
                · intro w' hSw; obtain ⟨r0, r1, r2, r3, _⟩ := blk4 hSw.1; have r4 := hSw.2; go_simp <;> with_reducible rfl
                simp only [Act.put, List.setIfInBounds_toArray, List.set_cons_zero, List.set_cons_succ]
                refine wpAnyH_yes (i := 2) (d := 61) (v := ?_) rfl rfl (by kernel_rfl) (by kernel_rfl) (by kernel_rfl) (fun _ _ _ h => h) (by rfl) ?_ hS0 ?_
                rotate_left
                · intro w' hSw; obtain ⟨r0, r1, r2, r3, _⟩ := blk4 hSw.1; have r4 := hSw.2; go_simp <;> with_reducible rfl
                simp only [Act.put, List.setIfInBounds_toArray, List.set_cons_zero, List.set_cons_succ]
                refine wpAnyH_yes (i := 3) (d := 62) (v := ?_) rfl rfl (by kernel_rfl) (by kernel_rfl) (by kernel_rfl) (fun _ _ _ h => h) (by rfl) ?_ hS0 ?_
                rotate_left
                · intro w' hSw; obtain ⟨r0, r1, r2, r3, _⟩ := blk4 hSw.1; have r4 := hSw.2; go_simp <;> with_reducible rfl
                simp only [Act.put, List.setIfInBounds_toArray, List.set_cons_zero, List.set_cons_succ]
                refine wpAnyH_yes (i := 4) (d := 63) (v := ?_) rfl rfl (by kernel_rfl) (by kernel_rfl) (by kernel_rfl) (fun _ _ _ h => h) (by rfl) ?_ hS0 ?_
                rotate_left
                · intro w' hSw; obtain ⟨r0, r1, r2, r3, _⟩ := blk4 hSw.1; have r4 := hSw.2; go_simp <;> with_reducible rfl
                simp only [Act.put, List.setIfInBounds_toArray, List.set_cons_zero, List.set_cons_succ]
                refine wpAnyH_yes (i := 5) (d := 64) (v := ?_) rfl rfl (by kernel_rfl) (by kernel_rfl) (by kernel_rfl) (fun _ _ _ h => h) (by rfl) ?_ hS0 ?_
                rotate_left
                · intro w' hSw; obtain ⟨r0, r1, r2, r3, _⟩ := blk4 hSw.1; have r4 := hSw.2; go_simp <;> with_reducible rfl
                simp only [Act.put, List.setIfInBounds_toArray, List.set_cons_zero, List.set_cons_succ]
                refine wpAnyH_yes (i := 6) (d := 65) (v := ?_) rfl rfl (by kernel_rfl) (by kernel_rfl) (by kernel_rfl) (fun _ _ _ h => h) (by rfl) ?_ hS0 ?_
                rotate_left
                · intro w' hSw; obtain ⟨r0, r1, r2, r3, _⟩ := blk4 hSw.1; have r4 := hSw.2; go_simp <;> with_reducible rfl
                simp only [Act.put, List.setIfInBounds_toArray, List.set_cons_zero, List.set_cons_succ]
                clear hS0
                replace BXs := Lib.hid (Blk.below BXs.out (show Below w5.heap.size w5 w5.drew from (Below.refl _ _).drew) BXs.out.lt)
                replace BB := Lib.hid (BB.out.drew)
                generalize w5.drew = w6 at *
                have LK2 := LKD.out
                refine wpAnyH_pr (i := 7) (j := 11) (by kernel_rfl) rfl rfl (by rfl) (by rfl) (fun Ka hKa => ?_) (fun Kb hKb => ?_)
                · skip
                  go_simp
                  with_reducible refine (link_at ⟨se, some ⟨g, off, none⟩, sn, sc, sl, sA1, sn1, sc1, sv, some ⟨g1, off1, none⟩, sn2, sc2, su⟩ zr hn OKs.out.few.n w6 (RdK.below R0.out.ls BB.out) r HRR.out).mono ?_
                  rintro e w7 ⟨rfl, hb⟩
                  replace BXs := Lib.hid (Blk.below BXs.out hb BXs.out.lt)
                  replace BB := Lib.hid (below_next BB.out (by have := BB.out.size; omega) hb)
                  clear hb
                  go_wp2_with fail
                  refine hKa.out _ _ ⟨BXs.out, (BB.out.cell (p := ⟨g1, off1 + i * 3 + 1, none⟩) hg1).trans e1⟩ ?_
                  clear hKa
                  refine wpAnyH_yes (i := 8) (d := 58) (v := ?_) rfl rfl (by kernel_rfl) (by kernel_rfl) (by kernel_rfl) (fun _ _ _ h => h) (by rfl) ?_ ⟨BXs.out, (BB.out.cell (p := ⟨g1, off1 + i * 3 + 1, none⟩) hg1).trans e1⟩ ?_
                  rotate_left
                  · intro w' hSw; skip; go_simp <;> with_reducible rfl
                  simp only [Act.put, List.setIfInBounds_toArray, List.set_cons_zero, List.set_cons_succ]
                  refine wpAnyH_yes (i := 9) (d := 67) (v := ?_) rfl rfl (by kernel_rfl) (by kernel_rfl) (by kernel_rfl) (fun _ _ _ h => h) (by rfl) ?_ ⟨BXs.out, (BB.out.cell (p := ⟨g1, off1 + i * 3 + 1, none⟩) hg1).trans e1⟩ ?_
                  rotate_left
                  · intro w' hSw; skip; go_simp <;> with_reducible rfl
                  simp only [Act.put, List.setIfInBounds_toArray, List.set_cons_zero, List.set_cons_succ]
                  refine wpAnyH_yes (i := 10) (d := 68) (v := ?_) rfl rfl (by kernel_rfl) (by kernel_rfl) (by kernel_rfl) (fun _ _ _ h => h) (by rfl) ?_ ⟨BXs.out, (BB.out.cell (p := ⟨g1, off1 + i * 3 + 1, none⟩) hg1).trans e1⟩ ?_
                  rotate_left
                  · intro w' hSw; skip; go_simp <;> with_reducible rfl
                  simp only [Act.put, List.setIfInBounds_toArray, List.set_cons_zero, List.set_cons_succ]
                  refine wpAnyH_one (i := 11) (by kernel_rfl) rfl (by rfl) (fun K hK => ?_)
                  go_simp
                  have BXe := Lib.hid (Blk.new w7 64 #[.int .i64 0, .string ⟨#[]⟩])
                  have BP := Lib.hid (gr1 w7 (.cells #[.int .i64 0, .string ⟨#[]⟩] 64)).below
                  have hpe_BXs := BXs.out.lt
                  generalize w7.alloc (.cells #[.int .i64 0, .string ⟨#[]⟩] 64) = w8 at *
                  generalize hpe : w7.heap.size = pe at *
                  refine hK.out _ _ ⟨Blk.below BXs.out BP.out hpe_BXs, ((below_at BB.out hpe BP.out).cell (p := ⟨g1, off1 + i * 3 + 1, none⟩) hg1).trans e1⟩ ?_
                  clear hK
                  refine wpAnyH_one (i := 12) (by kernel_rfl) rfl (by rfl) (fun K hK => ?_)
                  obtain ⟨y0, y1, q0, q1⟩ := blk2 BXe.out
                  have hly := BXe.out.lt
                  go_simp
                  replace BP : Hid (Below pe _ ((w8.setCell ⟨pe, 0, none⟩ (.int .i64 (r.getD ⟨0, []⟩).id)).setCell ⟨pe, 1, none⟩ (.string ⟨(r.getD ⟨0, []⟩).ad.toArray⟩))) := below_put2 BP.out (Nat.le_refl pe)  _ _
                  replace BXe : Hid (Blk ((w8.setCell ⟨pe, 0, none⟩ (.int .i64 (r.getD ⟨0, []⟩).id)).setCell ⟨pe, 1, none⟩ (.string ⟨(r.getD ⟨0, []⟩).ad.toArray⟩)) pe 64 #[.int .i64 (r.getD ⟨0, []⟩).id, .string ⟨(r.getD ⟨0, []⟩).ad.toArray⟩]) := Blk.put2 BXe.out  _ _
                  refine hK.out _ _ ⟨Blk.below BXs.out BP.out hpe_BXs, ((below_at BB.out hpe BP.out).cell (p := ⟨g1, off1 + i * 3 + 1, none⟩) hg1).trans e1⟩ ?_
                  clear hK y0 y1 q0 q1 hly
                  refine wpAnyH_yes (i := 13) (d := 10) (v := ?_) rfl rfl (by kernel_rfl) (by kernel_rfl) (by kernel_rfl) (fun _ _ _ h => h) (by rfl) ?_ ⟨Blk.below BXs.out BP.out hpe_BXs, ((below_at BB.out hpe BP.out).cell (p := ⟨g1, off1 + i * 3 + 1, none⟩) hg1).trans e1⟩ ?_
                  rotate_left
                  · intro w' hSw; skip; go_simp <;> with_reducible rfl
                  simp only [Act.put, List.setIfInBounds_toArray, List.set_cons_zero, List.set_cons_succ]
                  refine wpAnyH_done (by kernel_rfl) ?_ _
                  have hb : Below w7.heap.size w7 ((w8.setCell ⟨pe, 0, none⟩ (.int .i64 (r.getD ⟨0, []⟩).id)).setCell ⟨pe, 1, none⟩ (.string ⟨(r.getD ⟨0, []⟩).ad.toArray⟩)) := by rw [hpe]; exact BP.out
                  generalize ((w8.setCell ⟨pe, 0, none⟩ (.int .i64 (r.getD ⟨0, []⟩).id)).setCell ⟨pe, 1, none⟩ (.string ⟨(r.getD ⟨0, []⟩).ad.toArray⟩)) = w9 at *
                  clear BP
                  replace BXs := Lib.hid (Blk.below BXs.out hb BXs.out.lt)
                  replace BB := Lib.hid (below_next BB.out (by have := BB.out.size; omega) hb)
                  clear hb
                  clear hpe hpe_BXs
                  clear BXe
                  go_wp2_with fail
                  go_roundg (sn2 - (i + 1))
                  case measure => omega
                  case rel => exact ⟨i + 1, ue, by omega, Nat.le_refl _, by go_num, rfl, HU3, BB, BXs⟩
                · skip
                  go_simp
                  have BXe := Lib.hid (Blk.new w6 64 #[.int .i64 0, .string ⟨#[]⟩])
                  have BP := Lib.hid (gr1 w6 (.cells #[.int .i64 0, .string ⟨#[]⟩] 64)).below
                  have hpe_BXs := BXs.out.lt
                  generalize w6.alloc (.cells #[.int .i64 0, .string ⟨#[]⟩] 64) = w7 at *
                  generalize hpe : w6.heap.size = pe at *
                  refine hKb.out _ _ ⟨Blk.below BXs.out BP.out hpe_BXs, ((below_at BB.out hpe BP.out).cell (p := ⟨g1, off1 + i * 3 + 1, none⟩) hg1).trans e1⟩ ?_
                  clear hKb
                  refine wpAnyH_one (i := 7) (by kernel_rfl) rfl (by rfl) (fun K hK => ?_)
                  go_simp
                  with_reducible refine (link_at ⟨se, some ⟨g, off, none⟩, sn, sc, sl, sA1, sn1, sc1, sv, some ⟨g1, off1, none⟩, sn2, sc2, su⟩ zr hn OKs.out.few.n w7 (RdK.below R0.out.ls (below_at BB.out hpe BP.out)) r HRR.out).mono ?_
                  rintro e w8 ⟨rfl, hb⟩
                  replace BP := Lib.hid (below_next BP.out (by have := BP.out.size; omega) hb)
                  replace BXe := Lib.hid (Blk.below BXe.out hb BXe.out.lt)
                  clear hb
                  go_wp2_with fail
                  refine hK.out _ _ ⟨Blk.below BXs.out BP.out hpe_BXs, ((below_at BB.out hpe BP.out).cell (p := ⟨g1, off1 + i * 3 + 1, none⟩) hg1).trans e1⟩ ?_
                  clear hK
                  refine wpAnyH_yes (i := 8) (d := 58) (v := ?_) rfl rfl (by kernel_rfl) (by kernel_rfl) (by kernel_rfl) (fun _ _ _ h => h) (by rfl) ?_ ⟨Blk.below BXs.out BP.out hpe_BXs, ((below_at BB.out hpe BP.out).cell (p := ⟨g1, off1 + i * 3 + 1, none⟩) hg1).trans e1⟩ ?_
                  rotate_left
                  · intro w' hSw; skip; go_simp <;> with_reducible rfl
                  simp only [Act.put, List.setIfInBounds_toArray, List.set_cons_zero, List.set_cons_succ]
                  refine wpAnyH_yes (i := 9) (d := 67) (v := ?_) rfl rfl (by kernel_rfl) (by kernel_rfl) (by kernel_rfl) (fun _ _ _ h => h) (by rfl) ?_ ⟨Blk.below BXs.out BP.out hpe_BXs, ((below_at BB.out hpe BP.out).cell (p := ⟨g1, off1 + i * 3 + 1, none⟩) hg1).trans e1⟩ ?_
                  rotate_left
                  · intro w' hSw; skip; go_simp <;> with_reducible rfl
                  simp only [Act.put, List.setIfInBounds_toArray, List.set_cons_zero, List.set_cons_succ]
                  refine wpAnyH_yes (i := 10) (d := 68) (v := ?_) rfl rfl (by kernel_rfl) (by kernel_rfl) (by kernel_rfl) (fun _ _ _ h => h) (by rfl) ?_ ⟨Blk.below BXs.out BP.out hpe_BXs, ((below_at BB.out hpe BP.out).cell (p := ⟨g1, off1 + i * 3 + 1, none⟩) hg1).trans e1⟩ ?_
                  rotate_left
                  · intro w' hSw; skip; go_simp <;> with_reducible rfl
                  simp only [Act.put, List.setIfInBounds_toArray, List.set_cons_zero, List.set_cons_succ]
                  refine wpAnyH_one (i := 12) (by kernel_rfl) rfl (by rfl) (fun K hK => ?_)
                  obtain ⟨y0, y1, q0, q1⟩ := blk2 BXe.out
                  have hly := BXe.out.lt
                  go_simp
                  replace BP : Hid (Below pe _ ((w8.setCell ⟨pe, 0, none⟩ (.int .i64 (r.getD ⟨0, []⟩).id)).setCell ⟨pe, 1, none⟩ (.string ⟨(r.getD ⟨0, []⟩).ad.toArray⟩))) := below_put2 BP.out (Nat.le_refl pe)  _ _
                  replace BXe : Hid (Blk ((w8.setCell ⟨pe, 0, none⟩ (.int .i64 (r.getD ⟨0, []⟩).id)).setCell ⟨pe, 1, none⟩ (.string ⟨(r.getD ⟨0, []⟩).ad.toArray⟩)) pe 64 #[.int .i64 (r.getD ⟨0, []⟩).id, .string ⟨(r.getD ⟨0, []⟩).ad.toArray⟩]) := Blk.put2 BXe.out  _ _
                  refine hK.out _ _ ⟨Blk.below BXs.out BP.out hpe_BXs, ((below_at BB.out hpe BP.out).cell (p := ⟨g1, off1 + i * 3 + 1, none⟩) hg1).trans e1⟩ ?_
                  clear hK y0 y1 q0 q1 hly
                  refine wpAnyH_yes (i := 13) (d := 10) (v := ?_) rfl rfl (by kernel_rfl) (by kernel_rfl) (by kernel_rfl) (fun _ _ _ h => h) (by rfl) ?_ ⟨Blk.below BXs.out BP.out hpe_BXs, ((below_at BB.out hpe BP.out).cell (p := ⟨g1, off1 + i * 3 + 1, none⟩) hg1).trans e1⟩ ?_
                  rotate_left
                  · intro w' hSw; skip; go_simp <;> with_reducible rfl
                  simp only [Act.put, List.setIfInBounds_toArray, List.set_cons_zero, List.set_cons_succ]
                  refine wpAnyH_done (by kernel_rfl) ?_ _
                  have hb : Below w6.heap.size w6 ((w8.setCell ⟨pe, 0, none⟩ (.int .i64 (r.getD ⟨0, []⟩).id)).setCell ⟨pe, 1, none⟩ (.string ⟨(r.getD ⟨0, []⟩).ad.toArray⟩)) := by rw [hpe]; exact BP.out
                  generalize ((w8.setCell ⟨pe, 0, none⟩ (.int .i64 (r.getD ⟨0, []⟩).id)).setCell ⟨pe, 1, none⟩ (.string ⟨(r.getD ⟨0, []⟩).ad.toArray⟩)) = w9 at *
                  clear BP
                  replace BXs := Lib.hid (Blk.below BXs.out hb BXs.out.lt)
                  replace BB := Lib.hid (below_next BB.out (by have := BB.out.size; omega) hb)
                  clear hb
                  clear hpe hpe_BXs
                  clear BXe
                  go_wp2_with fail
                  go_roundg (sn2 - (i + 1))
                  case measure => omega
                  case rel => exact ⟨i + 1, ue, by omega, Nat.le_refl _, by go_num, rfl, HU3, BB, BXs⟩
              | true =>
                have HU3 : Hid (true = (anyFr (su.take (i + 1)) lk)) := by show _ = _; rw [← HU2.out]; rfl
                (refine qb_region mixedT (by kernel_rfl) ?_; (repeat (refine hq_step (fun K hK => ?_); go_simp; first | (refine hK _ ?_; clear hK K) | (apply Exists.intro; refine ⟨fun _ => ?_, hK _ ?_⟩; (fail); clear hK K))); refine hq_nil ?_; intro _ hw'; obtain ⟨⟨nq, osq⟩, hw''⟩ := hw'; subst hw'')
                clear b0 b1 b2 b3 k1 kl
                have hb := below_gx wr nq osq
                generalize gx wr nq osq = w5 at *
                replace BXs := Lib.hid (Blk.below BXs.out hb BXs.out.lt)
                replace BB := Lib.hid (below_next BB.out (by have := BB.out.size; omega) hb)
                clear hb
                have LKD : Hid ((findL sl zr).isSome = true) := by
                  refine findL_some.2 ?_
                  exact (RR.out.su.2.2 ⟨zi, zr, zf⟩ (List.mem_map.2 ⟨_, List.getElem_mem hil, by rw [HZ.out]⟩)).1
                obtain ⟨r, hr⟩ : ∃ r, findL sl zr = r := ⟨_, rfl⟩
                have HRR := Lib.hid hr
                rw [hr] at LKD
                clear hr
                go_wp2_with fail
                have hS0 : Blk w5.drew w.heap.size 52 #[.int .i64 se, .slice (some ⟨g, off, none⟩) sn sc, .slice sA1 sn1 sc1, .slice (some ⟨g1, off1, none⟩) sn2 sc2] ∧ w5.drew.cell? ⟨g1, off1 + i * 3 + 1, none⟩ = some (.int .i64 zr) := ⟨BXs.out, (BB.out.cell (p := ⟨g1, off1 + i * 3 + 1, none⟩) hg1).trans e1⟩
                refine wp_region_held_drew (S := fun w' => Blk w' w.heap.size 52 #[.int .i64 se, .slice (some ⟨g, off, none⟩) sn sc, .slice sA1 sn1 sc1, .slice (some ⟨g1, off1, none⟩) sn2 sc2] ∧ w'.cell? ⟨g1, off1 + i * 3 + 1, none⟩ = some (.int .i64 zr)) (by kernel_rfl) hS0 (fun _ => ?_)
                refine wpAnyH_yes (i := 0) (d := 59) (v := ?_) rfl rfl (by kernel_rfl) (by kernel_rfl) (by kernel_rfl) (fun _ _ _ h => h) (by rfl) ?_ hS0 ?_
                rotate_left
                · intro w' hSw; obtain ⟨r0, r1, r2, r3, _⟩ := blk4 hSw.1; have r4 := hSw.2; go_simp <;> with_reducible rfl
                simp only [Act.put, List.setIfInBounds_toArray, List.set_cons_zero, List.set_cons_succ]
                refine wpAnyH_yes (i := 1) (d := 60) (v := ?_) rfl rfl (by kernel_rfl) (by kernel_rfl) (by kernel_rfl) (fun _ _ _ h => h) (by rfl) ?_ hS0 ?_
                rotate_left
                · intro w' hSw; obtain ⟨r0, r1, r2, r3, _⟩ := blk4 hSw.1; have r4 := hSw.2; go_simp <;> with_reducible rfl
                simp only [Act.put, List.setIfInBounds_toArray, List.set_cons_zero, List.set_cons_succ]
                refine wpAnyH_yes (i := 2) (d := 61) (v := ?_) rfl rfl (by kernel_rfl) (by kernel_rfl) (by kernel_rfl) (fun _ _ _ h => h) (by rfl) ?_ hS0 ?_
                rotate_left
                · intro w' hSw; obtain ⟨r0, r1, r2, r3, _⟩ := blk4 hSw.1; have r4 := hSw.2; go_simp <;> with_reducible rfl
                simp only [Act.put, List.setIfInBounds_toArray, List.set_cons_zero, List.set_cons_succ]
                refine wpAnyH_yes (i := 3) (d := 62) (v := ?_) rfl rfl (by kernel_rfl) (by kernel_rfl) (by kernel_rfl) (fun _ _ _ h => h) (by rfl) ?_ hS0 ?_
                rotate_left
                · intro w' hSw; obtain ⟨r0, r1, r2, r3, _⟩ := blk4 hSw.1; have r4 := hSw.2; go_simp <;> with_reducible rfl
                simp only [Act.put, List.setIfInBounds_toArray, List.set_cons_zero, List.set_cons_succ]
                refine wpAnyH_yes (i := 4) (d := 63) (v := ?_) rfl rfl (by kernel_rfl) (by kernel_rfl) (by kernel_rfl) (fun _ _ _ h => h) (by rfl) ?_ hS0 ?_
                rotate_left
                · intro w' hSw; obtain ⟨r0, r1, r2, r3, _⟩ := blk4 hSw.1; have r4 := hSw.2; go_simp <;> with_reducible rfl
                simp only [Act.put, List.setIfInBounds_toArray, List.set_cons_zero, List.set_cons_succ]
                refine wpAnyH_yes (i := 5) (d := 64) (v := ?_) rfl rfl (by kernel_rfl) (by kernel_rfl) (by kernel_rfl) (fun _ _ _ h => h) (by rfl) ?_ hS0 ?_
                rotate_left
                · intro w' hSw; obtain ⟨r0, r1, r2, r3, _⟩ := blk4 hSw.1; have r4 := hSw.2; go_simp <;> with_reducible rfl
                simp only [Act.put, List.setIfInBounds_toArray, List.set_cons_zero, List.set_cons_succ]
                refine wpAnyH_yes (i := 6) (d := 65) (v := ?_) rfl rfl (by kernel_rfl) (by kernel_rfl) (by kernel_rfl) (fun _ _ _ h => h) (by rfl) ?_ hS0 ?_
                rotate_left
                · intro w' hSw; obtain ⟨r0, r1, r2, r3, _⟩ := blk4 hSw.1; have r4 := hSw.2; go_simp <;> with_reducible rfl
                simp only [Act.put, List.setIfInBounds_toArray, List.set_cons_zero, List.set_cons_succ]
                clear hS0
                replace BXs := Lib.hid (Blk.below BXs.out (show Below w5.heap.size w5 w5.drew from (Below.refl _ _).drew) BXs.out.lt)
                replace BB := Lib.hid (BB.out.drew)
                generalize w5.drew = w6 at *
                have LK2 := LKD.out
                refine wpAnyH_pr (i := 7) (j := 11) (by kernel_rfl) rfl rfl (by rfl) (by rfl) (fun Ka hKa => ?_) (fun Kb hKb => ?_)
                · skip
                  go_simp
                  with_reducible refine (link_at ⟨se, some ⟨g, off, none⟩, sn, sc, sl, sA1, sn1, sc1, sv, some ⟨g1, off1, none⟩, sn2, sc2, su⟩ zr hn OKs.out.few.n w6 (RdK.below R0.out.ls BB.out) r HRR.out).mono ?_
                  rintro e w7 ⟨rfl, hb⟩
                  replace BXs := Lib.hid (Blk.below BXs.out hb BXs.out.lt)
                  replace BB := Lib.hid (below_next BB.out (by have := BB.out.size; omega) hb)
                  clear hb
                  go_wp2_with fail
                  refine hKa.out _ _ ⟨BXs.out, (BB.out.cell (p := ⟨g1, off1 + i * 3 + 1, none⟩) hg1).trans e1⟩ ?_
                  clear hKa
                  refine wpAnyH_yes (i := 8) (d := 58) (v := ?_) rfl rfl (by kernel_rfl) (by kernel_rfl) (by kernel_rfl) (fun _ _ _ h => h) (by rfl) ?_ ⟨BXs.out, (BB.out.cell (p := ⟨g1, off1 + i * 3 + 1, none⟩) hg1).trans e1⟩ ?_
                  rotate_left
                  · intro w' hSw; skip; go_simp <;> with_reducible rfl
                  simp only [Act.put, List.setIfInBounds_toArray, List.set_cons_zero, List.set_cons_succ]
                  refine wpAnyH_yes (i := 9) (d := 67) (v := ?_) rfl rfl (by kernel_rfl) (by kernel_rfl) (by kernel_rfl) (fun _ _ _ h => h) (by rfl) ?_ ⟨BXs.out, (BB.out.cell (p := ⟨g1, off1 + i * 3 + 1, none⟩) hg1).trans e1⟩ ?_
                  rotate_left
                  · intro w' hSw; skip; go_simp <;> with_reducible rfl
                  simp only [Act.put, List.setIfInBounds_toArray, List.set_cons_zero, List.set_cons_succ]
                  refine wpAnyH_yes (i := 10) (d := 68) (v := ?_) rfl rfl (by kernel_rfl) (by kernel_rfl) (by kernel_rfl) (fun _ _ _ h => h) (by rfl) ?_ ⟨BXs.out, (BB.out.cell (p := ⟨g1, off1 + i * 3 + 1, none⟩) hg1).trans e1⟩ ?_
                  rotate_left
                  · intro w' hSw; skip; go_simp <;> with_reducible rfl
                  simp only [Act.put, List.setIfInBounds_toArray, List.set_cons_zero, List.set_cons_succ]
                  refine wpAnyH_one (i := 11) (by kernel_rfl) rfl (by rfl) (fun K hK => ?_)
                  go_simp
                  have BXe := Lib.hid (Blk.new w7 64 #[.int .i64 0, .string ⟨#[]⟩])
                  have BP := Lib.hid (gr1 w7 (.cells #[.int .i64 0, .string ⟨#[]⟩] 64)).below
                  have hpe_BXs := BXs.out.lt
                  generalize w7.alloc (.cells #[.int .i64 0, .string ⟨#[]⟩] 64) = w8 at *
                  generalize hpe : w7.heap.size = pe at *
                  refine hK.out _ _ ⟨Blk.below BXs.out BP.out hpe_BXs, ((below_at BB.out hpe BP.out).cell (p := ⟨g1, off1 + i * 3 + 1, none⟩) hg1).trans e1⟩ ?_
                  clear hK
                  refine wpAnyH_one (i := 12) (by kernel_rfl) rfl (by rfl) (fun K hK => ?_)
                  obtain ⟨y0, y1, q0, q1⟩ := blk2 BXe.out
                  have hly := BXe.out.lt
                  go_simp
                  replace BP : Hid (Below pe _ ((w8.setCell ⟨pe, 0, none⟩ (.int .i64 (r.getD ⟨0, []⟩).id)).setCell ⟨pe, 1, none⟩ (.string ⟨(r.getD ⟨0, []⟩).ad.toArray⟩))) := below_put2 BP.out (Nat.le_refl pe)  _ _
                  replace BXe : Hid (Blk ((w8.setCell ⟨pe, 0, none⟩ (.int .i64 (r.getD ⟨0, []⟩).id)).setCell ⟨pe, 1, none⟩ (.string ⟨(r.getD ⟨0, []⟩).ad.toArray⟩)) pe 64 #[.int .i64 (r.getD ⟨0, []⟩).id, .string ⟨(r.getD ⟨0, []⟩).ad.toArray⟩]) := Blk.put2 BXe.out  _ _
                  refine hK.out _ _ ⟨Blk.below BXs.out BP.out hpe_BXs, ((below_at BB.out hpe BP.out).cell (p := ⟨g1, off1 + i * 3 + 1, none⟩) hg1).trans e1⟩ ?_
                  clear hK y0 y1 q0 q1 hly
                  refine wpAnyH_yes (i := 13) (d := 10) (v := ?_) rfl rfl (by kernel_rfl) (by kernel_rfl) (by kernel_rfl) (fun _ _ _ h => h) (by rfl) ?_ ⟨Blk.below BXs.out BP.out hpe_BXs, ((below_at BB.out hpe BP.out).cell (p := ⟨g1, off1 + i * 3 + 1, none⟩) hg1).trans e1⟩ ?_
                  rotate_left
                  · intro w' hSw; skip; go_simp <;> with_reducible rfl
                  simp only [Act.put, List.setIfInBounds_toArray, List.set_cons_zero, List.set_cons_succ]
                  refine wpAnyH_done (by kernel_rfl) ?_ _
                  have hb : Below w7.heap.size w7 ((w8.setCell ⟨pe, 0, none⟩ (.int .i64 (r.getD ⟨0, []⟩).id)).setCell ⟨pe, 1, none⟩ (.string ⟨(r.getD ⟨0, []⟩).ad.toArray⟩)) := by rw [hpe]; exact BP.out
                  generalize ((w8.setCell ⟨pe, 0, none⟩ (.int .i64 (r.getD ⟨0, []⟩).id)).setCell ⟨pe, 1, none⟩ (.string ⟨(r.getD ⟨0, []⟩).ad.toArray⟩)) = w9 at *
                  clear BP
                  replace BXs := Lib.hid (Blk.below BXs.out hb BXs.out.lt)
                  replace BB := Lib.hid (below_next BB.out (by have := BB.out.size; omega) hb)
                  clear hb
                  clear hpe hpe_BXs
                  clear BXe
                  go_wp2_with fail
                  go_roundg (sn2 - (i + 1))
                  case measure => omega
                  case rel => exact ⟨i + 1, true, by omega, Nat.le_refl _, by go_num, rfl, HU3, BB, BXs⟩
                · skip
                  go_simp
                  have BXe := Lib.hid (Blk.new w6 64 #[.int .i64 0, .string ⟨#[]⟩])
                  have BP := Lib.hid (gr1 w6 (.cells #[.int .i64 0, .string ⟨#[]⟩] 64)).below
                  have hpe_BXs := BXs.out.lt
                  generalize w6.alloc (.cells #[.int .i64 0, .string ⟨#[]⟩] 64) = w7 at *
                  generalize hpe : w6.heap.size = pe at *
                  refine hKb.out _ _ ⟨Blk.below BXs.out BP.out hpe_BXs, ((below_at BB.out hpe BP.out).cell (p := ⟨g1, off1 + i * 3 + 1, none⟩) hg1).trans e1⟩ ?_
                  clear hKb
                  refine wpAnyH_one (i := 7) (by kernel_rfl) rfl (by rfl) (fun K hK => ?_)
                  go_simp
                  with_reducible refine (link_at ⟨se, some ⟨g, off, none⟩, sn, sc, sl, sA1, sn1, sc1, sv, some ⟨g1, off1, none⟩, sn2, sc2, su⟩ zr hn OKs.out.few.n w7 (RdK.below R0.out.ls (below_at BB.out hpe BP.out)) r HRR.out).mono ?_
                  rintro e w8 ⟨rfl, hb⟩
                  replace BP := Lib.hid (below_next BP.out (by have := BP.out.size; omega) hb)
                  replace BXe := Lib.hid (Blk.below BXe.out hb BXe.out.lt)
                  clear hb
                  go_wp2_with fail
                  refine hK.out _ _ ⟨Blk.below BXs.out BP.out hpe_BXs, ((below_at BB.out hpe BP.out).cell (p := ⟨g1, off1 + i * 3 + 1, none⟩) hg1).trans e1⟩ ?_
                  clear hK
                  refine wpAnyH_yes (i := 8) (d := 58) (v := ?_) rfl rfl (by kernel_rfl) (by kernel_rfl) (by kernel_rfl) (fun _ _ _ h => h) (by rfl) ?_ ⟨Blk.below BXs.out BP.out hpe_BXs, ((below_at BB.out hpe BP.out).cell (p := ⟨g1, off1 + i * 3 + 1, none⟩) hg1).trans e1⟩ ?_
                  rotate_left
                  · intro w' hSw; skip; go_simp <;> with_reducible rfl
                  simp only [Act.put, List.setIfInBounds_toArray, List.set_cons_zero, List.set_cons_succ]
                  refine wpAnyH_yes (i := 9) (d := 67) (v := ?_) rfl rfl (by kernel_rfl) (by kernel_rfl) (by kernel_rfl) (fun _ _ _ h => h) (by rfl) ?_ ⟨Blk.below BXs.out BP.out hpe_BXs, ((below_at BB.out hpe BP.out).cell (p := ⟨g1, off1 + i * 3 + 1, none⟩) hg1).trans e1⟩ ?_
                  rotate_left
                  · intro w' hSw; skip; go_simp <;> with_reducible rfl
                  simp only [Act.put, List.setIfInBounds_toArray, List.set_cons_zero, List.set_cons_succ]
                  refine wpAnyH_yes (i := 10) (d := 68) (v := ?_) rfl rfl (by kernel_rfl) (by kernel_rfl) (by kernel_rfl) (fun _ _ _ h => h) (by rfl) ?_ ⟨Blk.below BXs.out BP.out hpe_BXs, ((below_at BB.out hpe BP.out).cell (p := ⟨g1, off1 + i * 3 + 1, none⟩) hg1).trans e1⟩ ?_
                  rotate_left
                  · intro w' hSw; skip; go_simp <;> with_reducible rfl
                  simp only [Act.put, List.setIfInBounds_toArray, List.set_cons_zero, List.set_cons_succ]
                  refine wpAnyH_one (i := 12) (by kernel_rfl) rfl (by rfl) (fun K hK => ?_)
                  obtain ⟨y0, y1, q0, q1⟩ := blk2 BXe.out
                  have hly := BXe.out.lt
                  go_simp
                  replace BP : Hid (Below pe _ ((w8.setCell ⟨pe, 0, none⟩ (.int .i64 (r.getD ⟨0, []⟩).id)).setCell ⟨pe, 1, none⟩ (.string ⟨(r.getD ⟨0, []⟩).ad.toArray⟩))) := below_put2 BP.out (Nat.le_refl pe)  _ _
                  replace BXe : Hid (Blk ((w8.setCell ⟨pe, 0, none⟩ (.int .i64 (r.getD ⟨0, []⟩).id)).setCell ⟨pe, 1, none⟩ (.string ⟨(r.getD ⟨0, []⟩).ad.toArray⟩)) pe 64 #[.int .i64 (r.getD ⟨0, []⟩).id, .string ⟨(r.getD ⟨0, []⟩).ad.toArray⟩]) := Blk.put2 BXe.out  _ _
                  refine hK.out _ _ ⟨Blk.below BXs.out BP.out hpe_BXs, ((below_at BB.out hpe BP.out).cell (p := ⟨g1, off1 + i * 3 + 1, none⟩) hg1).trans e1⟩ ?_
                  clear hK y0 y1 q0 q1 hly
                  refine wpAnyH_yes (i := 13) (d := 10) (v := ?_) rfl rfl (by kernel_rfl) (by kernel_rfl) (by kernel_rfl) (fun _ _ _ h => h) (by rfl) ?_ ⟨Blk.below BXs.out BP.out hpe_BXs, ((below_at BB.out hpe BP.out).cell (p := ⟨g1, off1 + i * 3 + 1, none⟩) hg1).trans e1⟩ ?_
                  rotate_left
                  · intro w' hSw; skip; go_simp <;> with_reducible rfl
                  simp only [Act.put, List.setIfInBounds_toArray, List.set_cons_zero, List.set_cons_succ]
                  refine wpAnyH_done (by kernel_rfl) ?_ _
                  have hb : Below w6.heap.size w6 ((w8.setCell ⟨pe, 0, none⟩ (.int .i64 (r.getD ⟨0, []⟩).id)).setCell ⟨pe, 1, none⟩ (.string ⟨(r.getD ⟨0, []⟩).ad.toArray⟩)) := by rw [hpe]; exact BP.out
                  generalize ((w8.setCell ⟨pe, 0, none⟩ (.int .i64 (r.getD ⟨0, []⟩).id)).setCell ⟨pe, 1, none⟩ (.string ⟨(r.getD ⟨0, []⟩).ad.toArray⟩)) = w9 at *
                  clear BP
                  replace BXs := Lib.hid (Blk.below BXs.out hb BXs.out.lt)
                  replace BB := Lib.hid (below_next BB.out (by have := BB.out.size; omega) hb)
                  clear hb
                  clear hpe hpe_BXs
                  clear BXe
                  go_wp2_with fail
                  go_roundg (sn2 - (i + 1))
                  case measure => omega
                  case rel => exact ⟨i + 1, true, by omega, Nat.le_refl _, by go_num, rfl, HU3, BB, BXs⟩
            · have hin : sn2 = i := by omega
              subst hin
              have HU0 : Hid (ub = anyFr su lk) := by
                have h1 := HU.out
                rw [List.take_of_length_le (by omega)] at h1
                exact h1
              clear HU
              go_wp2_with fail
              clear x0 x1 x2 x3 hlx
              go_loopg [7, 11] sn1 (fun gg sU sI wr => ∃ (i : Nat) (ub : Bool), i ≤ sn1 ∧ sn1 - i ≤ gg ∧ sI = .int .i64 (i : Int) ∧ sU = .bool ub ∧ Hid (ub = (anyFr su lk || anyFr (sv.take i) lk)) ∧ Hid (Below w.heap.size w wr) ∧ Hid (Blk wr w.heap.size 52 #[.int .i64 se, .slice (some ⟨g, off, none⟩) sn sc, .slice sA1 sn1 sc1, .slice sA2 sn2 sc2]))
              case atStart => exact ⟨0, ub, Nat.zero_le _, by omega, rfl, rfl, by show _ = _; rw [HU0.out]; simp [anyFr], BB, BXs⟩
              case round =>
                clear BB BXs
                obtain ⟨i, ub, hi, hgg, rfl, rfl, HU, BB, BXs⟩ := hrel
                obtain ⟨x0, x1, x2, x3, _⟩ := blk4 BXs.out
                have hlx := BXs.out.lt
                by_cases hlt : i < sn1
                · have hil : i < sv.length := by rw [hn1]; exact hlt
                  obtain ⟨g1, off1, hA3, hg1, e0, e1, e2, hfi⟩ := RdEn.at3 R0.out.av hil
                  dsimp only at hA3 e0 e1 e2
                  have w6' : (i : Int) < (sn1 : Int) := by omega
                  obtain ⟨z, hz⟩ : ∃ z, sv[i] = z := ⟨_, rfl⟩
                  have HZ := Lib.hid hz
                  rw [hz] at e0 e1 e2 hfi
                  clear hz
                  obtain ⟨zi, zr, zA, zn, zc, zf⟩ := z
                  dsimp only at e0 e1 e2
                  clear e0 e2 hfi
                  go_wp2_with fail
                  clear x0 x1 x2 x3 hlx
                  have HU2 : Hid ((ub || decide (zr = lk)) = (anyFr su lk || anyFr (sv.take (i + 1)) lk)) := by
                    show _ = _
                    rw [HU.out, anyFr_snoc hil, HZ.out, Bool.or_assoc]
                  subst hA3
                  obtain ⟨b0, b1, b2, b3⟩ := gx4 BXs.out
                  have k1 := gx_cell ((BB.out.cell (p := ⟨g1, off1 + i * 3 + 1, none⟩) hg1).trans e1)
                  have kl := gx_cell ((BB.out.cell (p := ⟨g, off + j * 2, none⟩) hg).trans l0)
                  have HV : Hid ((decide (zr = lk)) = (zr == lk)) := by show _ = _; by_cases h : zr = lk <;> simp [h]
                  cases ub with
                  | false =>
                    obtain ⟨ue, hue⟩ : ∃ ue, (zr == lk) = ue := ⟨_, rfl⟩
                    have HU3 : Hid (ue = (anyFr su lk || anyFr (sv.take (i + 1)) lk)) := by show _ = _; rw [← HU2.out, HV.out, hue]; rfl
                    (refine qb_region mixedT (by kernel_rfl) ?_; (repeat (refine hq_step (fun K hK => ?_); go_simp; first | (refine hK _ ?_; clear hK K) | (apply Exists.intro; refine ⟨fun _ => ?_, hK _ ?_⟩; (fail); clear hK K))); refine hq_nil ?_; intro _ hw'; obtain ⟨⟨nq, osq⟩, hw''⟩ := hw'; subst hw'')
                    clear b0 b1 b2 b3 k1 kl
                    have hb := below_gx wr nq osq
                    generalize gx wr nq osq = w5 at *
                    replace BXs := Lib.hid (Blk.below BXs.out hb BXs.out.lt)
                    replace BB := Lib.hid (below_next BB.out (by have := BB.out.size; omega) hb)
                    clear hb
                    go_wp2_with fail
                    go_roundg (sn1 - (i + 1))
                    case measure => omega
                    case rel => exact ⟨i + 1, ue, by omega, Nat.le_refl _, by go_num, rfl, HU3, BB, BXs⟩
                  | true =>
                    have HU3 : Hid (true = (anyFr su lk || anyFr (sv.take (i + 1)) lk)) := by show _ = _; rw [← HU2.out]; rfl
                    (refine qb_region mixedT (by kernel_rfl) ?_; (repeat (refine hq_step (fun K hK => ?_); go_simp; first | (refine hK _ ?_; clear hK K) | (apply Exists.intro; refine ⟨fun _ => ?_, hK _ ?_⟩; (fail); clear hK K))); refine hq_nil ?_; intro _ hw'; obtain ⟨⟨nq, osq⟩, hw''⟩ := hw'; subst hw'')
                    clear b0 b1 b2 b3 k1 kl
                    have hb := below_gx wr nq osq
                    generalize gx wr nq osq = w5 at *
                    replace BXs := Lib.hid (Blk.below BXs.out hb BXs.out.lt)
                    replace BB := Lib.hid (below_next BB.out (by have := BB.out.size; omega) hb)
                    clear hb
                    go_wp2_with fail
                    go_roundg (sn1 - (i + 1))
                    case measure => omega
                    case rel => exact ⟨i + 1, true, by omega, Nat.le_refl _, by go_num, rfl, HU3, BB, BXs⟩
                · have hin2 : i = sn1 := by omega
                  have HUF : Hid (ub = (anyFr su lk || anyFr sv lk)) := by
                    have h1 := HU.out
                    rw [hin2, List.take_of_length_le (by omega)] at h1
                    exact h1
                  clear HU
                  go_wp2_with fail
                  clear x0 x1 x2 x3 hlx
                  have hp12 : w.heap.size < wr.heap.size := BXs.out.lt
                  have hb : Below wr.heap.size wr (wr.alloc (.cells #[.int .i64 se, .slice (some ⟨g, off, none⟩) sn sc, .slice sA1 sn1 sc1, .slice sA2 sn2 sc2] 52)) := (gr1 wr _).below
                  have BXt := Lib.hid (Blk.new wr 52 #[.int .i64 se, .slice (some ⟨g, off, none⟩) sn sc, .slice sA1 sn1 sc1, .slice sA2 sn2 sc2])
                  have hs4 : (wr.alloc (.cells #[.int .i64 se, .slice (some ⟨g, off, none⟩) sn sc, .slice sA1 sn1 sc1, .slice sA2 sn2 sc2] 52)).heap.size = wr.heap.size + 1 := by simp
                  replace BXs := Lib.hid (Blk.below BXs.out hb BXs.out.lt)
                  replace BB := Lib.hid (below_next BB.out (by have := BB.out.size; omega) hb)
                  clear hb
                  generalize wr.alloc (.cells #[.int .i64 se, .slice (some ⟨g, off, none⟩) sn sc, .slice sA1 sn1 sc1, .slice sA2 sn2 sc2] 52) = w8 at *
                  generalize hp12e : wr.heap.size = p12 at *
                  clear hp12e
                  have RL0 : Hid (RdLk w (some ⟨g, off, none⟩) sl) := R0.out.ls
                  have RA0 : Hid (RdEn w sA1 sv) := R0.out.av
                  have RU0 : Hid (RdEn w sA2 su) := R0.out.su
                  clear R0 l0
                  generalize (some ⟨g, off, none⟩ : Option Addr) = sA at *
                  have hS0 : Blk w8.drew w.heap.size 52 #[.int .i64 se, .slice sA sn sc, .slice sA1 sn1 sc1, .slice sA2 sn2 sc2] := BXs.out
                  have hhd := run_headL sA sn sc j (by omega) hc
                  have hr8 := rd_dropL RL0.out hn hj1 hc
                  have hw1 : IntKind.i64.wrap ((j : Int) + 1) = (j : Int) + 1 := by rw [IntKind.wrap_i64]; omega
                  have hw2 : (0 : Int) ≤ (j : Int) + 1 := by omega
                  have hw3 : (j : Int) + 1 ≤ (sn : Int) := by omega
                  have hw4 : ((j : Int) + 1).toNat = j + 1 := by omega
                  refine wp_region_held_drew (S := fun w' => Blk w' w.heap.size 52 #[.int .i64 se, .slice sA sn sc, .slice sA1 sn1 sc1, .slice sA2 sn2 sc2]) (by kernel_rfl) hS0 (fun _ => ?_)
                  refine wpAnyH_yes (i := 1) (d := 96) (v := ?_) rfl rfl (by kernel_rfl) (by kernel_rfl) (by kernel_rfl) (fun _ _ _ h => h) (by rfl) ?_ hS0 ?_
                  rotate_left
                  · intro w' hSw; obtain ⟨r0, r1, r2, r3, _⟩ := blk4 hSw; go_simp <;> with_reducible rfl
                  simp only [Act.put, List.setIfInBounds_toArray, List.set_cons_zero, List.set_cons_succ]
                  refine wpAnyH_yes (i := 2) (d := 97) (v := ?_) rfl rfl (by kernel_rfl) (by kernel_rfl) (by kernel_rfl) (fun _ _ _ h => h) (by rfl) ?_ hS0 ?_
                  rotate_left
                  · intro w' hSw; obtain ⟨r0, r1, r2, r3, _⟩ := blk4 hSw; go_simp <;> with_reducible rfl
                  simp only [Act.put, List.setIfInBounds_toArray, List.set_cons_zero, List.set_cons_succ]
                  refine wpAnyH_yes (i := 3) (d := 98) (v := ?_) rfl rfl (by kernel_rfl) (by kernel_rfl) (by kernel_rfl) (fun _ _ _ h => h) (by rfl) ?_ hS0 ?_
                  rotate_left
                  · intro w' hSw; obtain ⟨r0, r1, r2, r3, _⟩ := blk4 hSw; go_simp <;> with_reducible rfl
                  simp only [Act.put, List.setIfInBounds_toArray, List.set_cons_zero, List.set_cons_succ]
                  refine wpAnyH_yes (i := 4) (d := 99) (v := ?_) rfl rfl (by kernel_rfl) (by kernel_rfl) (by kernel_rfl) (fun _ _ _ h => h) (by rfl) ?_ hS0 ?_
                  rotate_left
                  · intro w' hSw; obtain ⟨r0, r1, r2, r3, _⟩ := blk4 hSw; go_simp <;> with_reducible rfl
                  simp only [Act.put, List.setIfInBounds_toArray, List.set_cons_zero, List.set_cons_succ]
                  refine wpAnyH_yes (i := 6) (d := 101) (v := ?_) rfl rfl (by kernel_rfl) (by kernel_rfl) (by kernel_rfl) (fun _ _ _ h => h) (by rfl) ?_ hS0 ?_
                  rotate_left
                  · intro w' hSw; obtain ⟨r0, r1, r2, r3, _⟩ := blk4 hSw; go_simp <;> with_reducible rfl
                  simp only [Act.put, List.setIfInBounds_toArray, List.set_cons_zero, List.set_cons_succ]
                  refine wpAnyH_yes (i := 7) (d := 102) (v := ?_) rfl rfl (by kernel_rfl) (by kernel_rfl) (by kernel_rfl) (fun _ _ _ h => h) (by rfl) ?_ hS0 ?_
                  rotate_left
                  · intro w' hSw; obtain ⟨r0, r1, r2, r3, _⟩ := blk4 hSw; go_simp <;> with_reducible rfl
                  simp only [Act.put, List.setIfInBounds_toArray, List.set_cons_zero, List.set_cons_succ]
                  refine wpAnyH_yes (i := 8) (d := 103) (v := ?_) rfl rfl (by kernel_rfl) (by kernel_rfl) (by kernel_rfl) (fun _ _ _ h => h) (by rfl) ?_ hS0 ?_
                  rotate_left
                  · intro w' hSw; obtain ⟨r0, r1, r2, r3, _⟩ := blk4 hSw; go_simp <;> with_reducible rfl
                  simp only [Act.put, List.setIfInBounds_toArray, List.set_cons_zero, List.set_cons_succ]
                  refine wpAnyH_yes (i := 9) (d := 104) (v := ?_) rfl rfl (by kernel_rfl) (by kernel_rfl) (by kernel_rfl) (fun _ _ _ h => h) (by rfl) ?_ hS0 ?_
                  rotate_left
                  · intro w' hSw; obtain ⟨r0, r1, r2, r3, _⟩ := blk4 hSw; go_simp <;> with_reducible rfl
                  simp only [Act.put, List.setIfInBounds_toArray, List.set_cons_zero, List.set_cons_succ]
                  refine wpAnyH_yes (i := 10) (d := 105) (v := ?_) rfl rfl (by kernel_rfl) (by kernel_rfl) (by kernel_rfl) (fun _ _ _ h => h) (by rfl) ?_ hS0 ?_
                  rotate_left
                  · intro w' hSw; obtain ⟨r0, r1, r2, r3, _⟩ := blk4 hSw; go_simp <;> with_reducible rfl
                  simp only [Act.put, List.setIfInBounds_toArray, List.set_cons_zero, List.set_cons_succ]
                  have RK0 : Hid (RdK layL w (if sc = j + 1 then sA else Option.map (fun x => x.add ((j + 1) * 2)) sA) (sl.drop (j + 1))) := hr8
                  generalize (if sc = j + 1 then sA else Option.map (fun x => x.add ((j + 1) * 2)) sA) = A8 at *
                  clear hr8 hhd hw1 hw2 hw3 hw4
                  have BXs' : Hid (Blk w8.drew w.heap.size 52 #[.int .i64 se, .slice sA sn sc, .slice sA1 sn1 sc1, .slice sA2 sn2 sc2]) := BXs.out
                  have BXt' : Hid (Blk w8.drew p12 52 #[.int .i64 se, .slice sA sn sc, .slice sA1 sn1 sc1, .slice sA2 sn2 sc2]) := BXt.out
                  have BB' : Hid (Below w.heap.size w w8.drew) := BB.out.drew
                  have hs5 : w8.drew.heap.size = p12 + 1 := hs4
                  clear BXs BXt BB hs4 hS0
                  have BXs := BXs'
                  clear BXs'
                  have BXt := BXt'
                  clear BXt'
                  have BB := BB'
                  clear BB'
                  generalize w8.drew = wA at *
                  refine wpAnyH_one (i := 0) (by kernel_rfl) rfl (by rfl) (fun K hK => ?_)
                  go_simp
                  have hO0 : OwnK layL (wA.alloc (.cells #[] 64)) (p12 + 1) (.slice (some ⟨wA.heap.size, 0, none⟩) 0 0) [] := OwnK.empty wA (p12 + 1) (by omega)
                  have hb : Below wA.heap.size wA (wA.alloc (.cells #[] 64)) := (gr1 wA _).below
                  have hs6 : p12 + 1 ≤ (wA.alloc (.cells #[] 64)).heap.size := by have := hb.size; omega
                  rw [hs5] at hO0
                  replace BXs := Lib.hid (Blk.below BXs.out hb BXs.out.lt)
                  replace BB := Lib.hid (below_next BB.out (by have := BB.out.size; omega) hb)
                  replace BXt := Lib.hid (Blk.below BXt.out hb BXt.out.lt)
                  clear hb
                  generalize wA.alloc (.cells #[] 64) = wB at *
                  refine hK.out _ _ BXs.out ?_
                  clear hK hs5
                  refine wpAnyH_one (i := 5) (by kernel_rfl) rfl (by rfl) (fun K hK => ?_)
                  refine op_append_k layL (.tmp 95) (.tmp 99) 49 underL (by rfl) (p12 + 1) _ ([]) (by rfl) hO0 sA (sl.take j) (j) (sc) (by rfl) (RdK.take (RdK.below RL0.out BB.out) j) (by rw [List.length_take, hn]; omega) (by rw [maxLen_num]; simp; omega) (by simp [layL]; omega) hs6 ?_
                  intro v5 wC0 ho7 hbx
                  have hbp : Below (p12 + 1) wB wC0 := hbx wB (Below.refl _ _)
                  clear hbx
                  replace BXs := Lib.hid (Blk.below BXs.out hbp (by omega))
                  replace BXt := Lib.hid (Blk.below BXt.out hbp (by omega))
                  replace BB := Lib.hid (BB.out.trans (hbp.mono (by omega)))
                  replace hs6 := Nat.le_trans hs6 hbp.size
                  clear hbp
                  rw [List.nil_append] at ho7
                  have hl7 : (sl.take j).length = j := by rw [List.length_take, hn]; omega
                  obtain ⟨A7, c7, hv7, hc7, _⟩ := OwnK.form ho7 hl7
                  subst hv7
                  refine hK.out _ _ BXs.out ?_
                  clear hK
                  simp only [Act.put, List.setIfInBounds_toArray, List.set_cons_zero, List.set_cons_succ]
                  clear hO0
                  refine wpAnyH_one (i := 11) (by kernel_rfl) rfl (by rfl) (fun K hK => ?_)
                  refine op_append_k layL (.tmp 100) (.tmp 105) 49 underL (by rfl) (p12 + 1) _ (sl.take j) (by rfl) ho7 A8 (sl.drop (j + 1)) (sn - (j + 1)) (sc - (j + 1)) (by rfl) (RdK.below RK0.out BB.out) (by rw [List.length_drop, hn]) (by rw [maxLen_num]; simp; omega) (by simp [layL]; omega) hs6 ?_
                  intro v11 wC1 ho9 hbx
                  have hbp : Below (p12 + 1) wC0 wC1 := hbx wC0 (Below.refl _ _)
                  clear hbx
                  replace BXs := Lib.hid (Blk.below BXs.out hbp (by omega))
                  replace BXt := Lib.hid (Blk.below BXt.out hbp (by omega))
                  replace BB := Lib.hid (BB.out.trans (hbp.mono (by omega)))
                  replace hs6 := Nat.le_trans hs6 hbp.size
                  clear hbp
                  have hl9 : (sl.take j ++ sl.drop (j + 1)).length = sn - 1 := by rw [List.length_append, List.length_take, List.length_drop, hn]; omega
                  obtain ⟨A9, c9, hv9, hc9, _⟩ := OwnK.form ho9 hl9
                  subst hv9
                  refine hK.out _ _ BXs.out ?_
                  clear hK
                  simp only [Act.put, List.setIfInBounds_toArray, List.set_cons_zero, List.set_cons_succ]
                  clear ho7
                  refine wpAnyH_yes (i := 12) (d := 107) (v := ?_) rfl rfl (by kernel_rfl) (by kernel_rfl) (by kernel_rfl) (fun _ _ _ h => h) (by rfl) ?_ BXs.out ?_
                  rotate_left
                  · intro w' hSw; obtain ⟨r0, r1, r2, r3, _⟩ := blk4 hSw; go_simp <;> with_reducible rfl
                  simp only [Act.put, List.setIfInBounds_toArray, List.set_cons_zero, List.set_cons_succ]
                  refine wpAnyH_one (i := 13) (by kernel_rfl) rfl (by rfl) (fun K hK => ?_)
                  obtain ⟨y0, y1, y2, y3, q0, q1, q2, q3⟩ := blk4 BXt.out
                  have hly := BXt.out.lt
                  go_simp
                  have BXs' : Hid (Blk (wC1.setCell ⟨p12, 1, none⟩ (.slice A9 (sn - 1) c9)) w.heap.size 52 #[.int .i64 se, .slice sA sn sc, .slice sA1 sn1 sc1, .slice sA2 sn2 sc2]) := Blk.far BXs.out (p := ⟨p12, 1, none⟩) (by show w.heap.size ≠ p12; omega) _
                  have BXt' : Hid (Blk (wC1.setCell ⟨p12, 1, none⟩ (.slice A9 (sn - 1) c9)) p12 52 #[.int .i64 se, .slice A9 (sn - 1) c9, .slice sA1 sn1 sc1, .slice sA2 sn2 sc2]) := by have := Blk.put BXt.out 1 (.slice A9 (sn - 1) c9); show Blk _ _ _ _; simpa using this
                  have BB' : Hid (Below w.heap.size w (wC1.setCell ⟨p12, 1, none⟩ (.slice A9 (sn - 1) c9))) := below_set BB.out (by omega)
                  have hO9 : OwnK layL (wC1.setCell ⟨p12, 1, none⟩ (.slice A9 (sn - 1) c9)) (p12 + 1) (.slice A9 (sn - 1) c9) (cut sl j) := OwnK.set_ ho9 (Nat.lt_succ_self p12) 1 _
                  refine hK.out _ _ BXs'.out ?_
                  clear hK BXs BXt BB ho9 y0 y1 y2 y3 q0 q1 q2 q3 hly
                  have BXs := BXs'
                  clear BXs'
                  have BXt := BXt'
                  clear BXt'
                  have BB := BB'
                  clear BB'
                  refine wpAnyH_done (by kernel_rfl) ?_ _
                  have Rt : Hid (Sx.Rd (wC1.setCell ⟨p12, 1, none⟩ (.slice A9 (sn - 1) c9)) ⟨se, A9, sn - 1, c9, cut sl j, sA1, sn1, sc1, sv, sA2, sn2, sc2, su⟩) := ⟨rdk_own hO9, RA0.out.below BB.out, RU0.out.below BB.out⟩
                  clear hO9
                  generalize (wC1.setCell ⟨p12, 1, none⟩ (.slice A9 (sn - 1) c9)) = w9 at *
                  have hlc : (cut sl j).length = sn - 1 := by have := cut_len (l := sl) (k := j) (by omega); omega
                  have LNt : Hid (Sx.Len ⟨se, A9, sn - 1, c9, cut sl j, sA1, sn1, sc1, sv, sA2, sn2, sc2, su⟩) := ⟨hlc, hc9, LNs.out.n1, LNs.out.c1, LNs.out.n2, LNs.out.c2⟩
                  have FWt : Hid (Sx.Few ⟨se, A9, sn - 1, c9, cut sl j, sA1, sn1, sc1, sv, sA2, sn2, sc2, su⟩) := ⟨by show sn - 1 ≤ 100000; omega, OKs.out.few.n1, OKs.out.few.n2, OKs.out.few.av, OKs.out.few.su⟩
                  have HRT : Hid ((!ub) = true ↔ Tb.Right (Sx.bk ⟨se, A9, sn - 1, c9, cut sl j, sA1, sn1, sc1, sv, sA2, sn2, sc2, su⟩)) := by
                    show _ ↔ Tb.Right ⟨se, cut sl j, sv.map Ex.en, su.map Ex.en⟩
                    refine Iff.trans ?_ (links_cut RR.out hjl).symm
                    rw [HUF.out, HLK.out]
                    have he : (∃ e, (e ∈ su.map Ex.en ∨ e ∈ sv.map Ex.en) ∧ e.fr = lk) ↔ (∃ x ∈ su, x.fr = lk) ∨ ∃ x ∈ sv, x.fr = lk := by
                      constructor
                      · rintro ⟨e, he | he, h⟩
                        · obtain ⟨x, hx, rfl⟩ := List.mem_map.1 he; exact .inl ⟨x, hx, h⟩
                        · obtain ⟨x, hx, rfl⟩ := List.mem_map.1 he; exact .inr ⟨x, hx, h⟩
                      · rintro (⟨x, hx, h⟩ | ⟨x, hx, h⟩)
                        · exact ⟨_, .inl (List.mem_map.2 ⟨x, hx, rfl⟩), h⟩
                        · exact ⟨_, .inr (List.mem_map.2 ⟨x, hx, rfl⟩), h⟩
                    rw [he, Bool.not_eq_true', Bool.or_eq_false_iff, anyFr_false, anyFr_false, not_or]
                  obtain ⟨z0, z1, z2, z3, _⟩ := blk4 BXt.out
                  have hlz := BXt.out.lt
                  go_wp2_with fail
                  refine (right_st ⟨se, A9, sn - 1, c9, cut sl j, sA1, sn1, sc1, sv, sA2, sn2, sc2, su⟩ LNt.out FWt.out OKs.out.pa OKs.out.pu _ Rt.out (!ub) HRT.out).mono ?_
                  rintro e w10 ⟨rfl, hb⟩
                  clear z0 z1 z2 z3 hlz
                  replace BXs := Lib.hid (Blk.below BXs.out hb BXs.out.lt)
                  replace BXt := Lib.hid (Blk.below BXt.out hb BXt.out.lt)
                  replace BB := Lib.hid (below_next BB.out (by have := BB.out.size; omega) hb)
                  clear hb
                  go_wp2_with fail
                  go_ret
                  exact ⟨ret_b (by cases ub <;> rfl), BB.out⟩

/-! ### The row's step. -/
namespace tableLinks
theorem own : ownKnob Tryz.prog.godebug = none := by kernel_rfl
theorem laidOut : laidOutB Tryz.prog = true := by kernel_rfl
set_option linter.unusedVariables false in
set_option maxRecDepth 100000 in
theorem lifted (os : Os) (started : os.Started) (H : Type) (enc : TypeId × Value → H) :
    ReturnsInHanded {} Tryz.checked os 7 .any (Rows.tableLinksSpec.pre6 enc Tryz.prog Tryz.f7 Rows.tableLinksRow.domain false) (Rows.tableLinksSpec.post enc Tryz.prog Tryz.f7 false true false false) := by
  refine returnsInHanded_of_change_sized (C := Tryz.checked) own started (by kernel_rfl) Tryz.func7
    (ChangeSpec.witness6 (enc := enc) (C := Tryz.checked) false ⟨#[], #[.agg #[.int .i64 0, .slice none 0 0, .slice none 0 0, .slice none 0 0], .int .i64 0], []⟩ 8 (by kernel_rfl) (by kernel_rfl) (by kernel_rfl) (by kernel_rfl)) ?_
  intro W base args ds gs before hval0 hW hcnd hsz0 _
  have hval : ∀ (j : Nat) t v, Tryz.f7.params[j]? = some t → args[j]? = some v → Value.okWide Tryz.prog W .any base t v := hval0
  have hsz : (DataW.weightsEach Tryz.prog (Tryz.f7.params.toList ++ Rows.tableLinksSpec.plain.varTypes Tryz.prog) (ds ++ gs)).all (· ≤ reachBytes) = true := hsz0
  have hW' := hW
  obtain ⟨p, q, hA0, hV, rfl, hfz, hnd⟩ := hW
  have hA : DataW.TrodAll enc Tryz.prog W 0 (fun _ => true) true Tryz.f7.params.toList args.toList ds p := hA0
  rw [Tryz.params7] at hA hval hsz
  obtain ⟨v0, vs0, d0, ds0, p0, q0, hargs, rfl, rfl, h0, r0⟩ := trodAll_cons hA
  obtain ⟨v1, vs1, d1, ds1, p1, q1, rfl, rfl, rfl, h1, r1⟩ := trodAll_cons r0
  obtain ⟨rfl, rfl, rfl⟩ := trodAll_nil r1
  obtain rfl : args = #[v0, v1] := by cases args; simp_all
  obtain ⟨rfl, rfl⟩ := trodVars_none hV
  obtain ⟨s0, rfl, ln0, rs0, we0, cp0, sz0, lb0, ab0, ub0⟩ := open_state (hval 0 52 v0 rfl rfl) h0 (fun n hn => by simpa using List.all_eq_true.1 hsz n (DataW.weights_mem_each (j := 0) rfl rfl n hn))
  have k0 := h0
  have lt0 : ∀ x ∈ p0, x.block < W.heap.size := by obtain ⟨m, hm⟩ := k0; exact DataW.trod_lt m _ _ _ hm
  obtain ⟨a1, rfl, rfl, rfl, w1⟩ := open_int Tryz.underlying3 (hval 1 3 v1 rfl rfl) h1
  clear hA0 hval0
  refine (walk_TableLinks W s0 ln0 rs0 we0 cp0 sz0 lb0 ab0 ub0 a1 w1).mono fun e W' ⟨he, bel⟩ => ?_
  subst he
  exact ⟨_, rfl, _, _, _, [], _, [], hW', trodAll_mk1 (shut_bool Tryz.underlying4 _), (trodAll_cons_mk (Below.trod laidOut (by kernel_rfl) (of_decide_eq_true (by kernel_rfl)) k0 bel lt0) (trodAll_cons_mk (shut_int Tryz.underlying3 w1) trodAll_mk0)), rfl, bel.frame _, fun h => by cases h⟩
theorem over : Rows.tableLinksRow.holds Tryz.pinned (OpenSpec.ofChange Rows.tableLinksSpec) :=
  OpenClaim.holds_of_wide 7 Tryz.f7 rfl rfl rfl rfl rfl rfl rfl ⟨rfl, rfl, rfl, rfl, rfl⟩ rfl rfl rfl rfl rfl (by kernel_rfl) Tryz.func7 (by kernel_rfl)
    (of_decide_eq_true (by kernel_rfl)) (by unfold Func.isWrapper; first | (rw [if_pos (by decide +kernel)]; kernel_rfl) | (rw [if_neg (by decide +kernel)]; exact ⟨rfl, rfl⟩))
    (fun os started H enc _ => lifted os started H enc)
end tableLinks
/-- THE STATEMENT. -/
theorem tableLinks_holds : Rows.TableLinksSaid := tableLinks.over
#print axioms tableLinks_holds
end Go.Proofs.YtoffnfooeojhnaaGreat
