/-
  A right state without one of its subscriptions is right, and has all others: for every state and every place the call of the law answers true, and all arguments read behind it as they read before. No condition.
-/
import Derived.Test.YtoffnfooeojhnaaGreatM11
namespace Go.Proofs.YtoffnfooeojhnaaGreat
open Go.RowKit Go.ChangeShapes Go.WideShapes Go.ChangeAt Go.Sort Spans Tb
set_option maxRecDepth 100000 in
set_option maxHeartbeats 8000000 in
theorem walk_TableLess (w : World) (s : Sx) (lns : s.Len) (rss : s.Rd w) (wes : -9223372036854775808 ≤ s.ep ∧ s.ep ≤ 9223372036854775807) (cps : s.c ≤ maxLen ∧ s.c1 ≤ maxLen ∧ s.c2 ≤ maxLen) (szs : s.n ≤ 5900000000000 ∧ s.n1 ≤ 3600000000000 ∧ s.n2 ≤ 3600000000000) (lbs : LBx s.ls) (abs : EBx s.av) (ubs : EBx s.su) (k : Int) (hwk : (Lit.int .i64 k).wf = true) :
    Calls Tryz.prog 6 #[s.v, .int .i64 k] w fun e w' => e = .returned (.bool true) ∧ Below w.heap.size w w' := by
  obtain ⟨se, sA, sn, sc, sl, sA1, sn1, sc1, sv, sA2, sn2, sc2, su⟩ := s
  have LNs := Lib.hid lns
  have LBs := Lib.hid lbs
  have ABs := Lib.hid abs
  have UBs := Lib.hid ubs
  have SZs := Lib.hid szs
  have hb0 := (gr1 w (.cells #[.int .i64 se, .slice sA sn sc, .slice sA1 sn1 sc1, .slice sA2 sn2 sc2] 52)).below
  have BXs := Lib.hid (Blk.new w 52 #[.int .i64 se, .slice sA sn sc, .slice sA1 sn1 sc1, .slice sA2 sn2 sc2])
  have R0 := Lib.hid rss
  have BB := Lib.hid hb0
  obtain ⟨qs, hqs⟩ : ∃ q, statesB ⟨se, sA, sn, sc, sl, sA1, sn1, sc1, sv, sA2, sn2, sc2, su⟩ = q := ⟨_, rfl⟩
  have Qs := Lib.hid hqs
  have hkb := bounds_of hwk
  clear hb0 hqs hwk lns rss wes cps szs lbs abs ubs
  go_enter Tryz.func6, Tryz.ntmps6
  go_wp2_with fail
  generalize w.alloc (.cells #[.int .i64 se, .slice sA sn sc, .slice sA1 sn1 sc1, .slice sA2 sn2 sc2] 52) = w0 at *
  refine (tsmall_at w0).mono ?_
  rintro e w1 ⟨rfl, hb⟩
  replace BXs := Lib.hid (Blk.below BXs.out hb BXs.out.lt)
  replace BB := Lib.hid (below_next BB.out (by have := BB.out.size; omega) hb)
  clear hb
  obtain ⟨x0, x1, x2, x3, _⟩ := blk4 BXs.out
  have hlx := BXs.out.lt
  go_wp2_with fail
  refine (states_at ⟨se, sA, sn, sc, sl, sA1, sn1, sc1, sv, sA2, sn2, sc2, su⟩ LNs.out SZs.out LBs.out ABs.out UBs.out _ (R0.out.below BB.out) qs Qs.out).mono ?_
  rintro e w2 ⟨rfl, hb⟩
  replace BXs := Lib.hid (Blk.below BXs.out hb BXs.out.lt)
  replace BB := Lib.hid (below_next BB.out (by have := BB.out.size; omega) hb)
  clear hb
  clear x0 x1 x2 x3 hlx
  obtain ⟨x0, x1, x2, x3, _⟩ := blk4 BXs.out
  have hlx := BXs.out.lt
  cases qs with
  | false =>
    go_wp2_with fail
    go_ret
    exact ⟨rfl, BB.out⟩
  | true =>
    have OKs := Lib.hid (ok_of Qs.out LNs.out ABs.out UBs.out)
    by_cases hk0 : k < 0
    · have d0 : decide (k < 0) = true := decide_eq_true hk0
      go_wp2_with fail
      go_ret
      exact ⟨rfl, BB.out⟩
    · have d0 : decide (k < 0) = false := decide_eq_false hk0
      by_cases hk1 : (sn2 : Int) ≤ k
      · have d1 : decide ((sn2 : Int) ≤ k) = true := decide_eq_true hk1
        go_wp2_with fail
        go_ret
        exact ⟨rfl, BB.out⟩
      · have d1 : decide ((sn2 : Int) ≤ k) = false := decide_eq_false hk1
        obtain ⟨j, rfl⟩ : ∃ j : Nat, k = (j : Int) := ⟨k.toNat, by omega⟩
        have hj : j < sn2 := by omega
        have hj1 : j + 1 ≤ sn2 := hj
        clear hk0 hk1
        obtain ⟨qr, hqr⟩ : ∃ q : Bool, q = true ↔ Tb.Right (Sx.bk ⟨se, sA, sn, sc, sl, sA1, sn1, sc1, sv, sA2, sn2, sc2, su⟩) := by
          by_cases h : Tb.Right (Sx.bk ⟨se, sA, sn, sc, sl, sA1, sn1, sc1, sv, sA2, sn2, sc2, su⟩)
          · exact ⟨true, by simp [h]⟩
          · exact ⟨false, by simp [h]⟩
        have QR := Lib.hid hqr
        clear hqr
        go_wp2_with fail
        refine (right_st ⟨se, sA, sn, sc, sl, sA1, sn1, sc1, sv, sA2, sn2, sc2, su⟩ LNs.out OKs.out.few OKs.out.pa OKs.out.pu _ (R0.out.below BB.out) qr QR.out).mono ?_
        rintro e w3 ⟨rfl, hb⟩
        replace BXs := Lib.hid (Blk.below BXs.out hb BXs.out.lt)
        replace BB := Lib.hid (below_next BB.out (by have := BB.out.size; omega) hb)
        clear hb
        clear x0 x1 x2 x3 hlx
        cases qr with
        | false =>
          go_wp2_with fail
          go_ret
          exact ⟨rfl, BB.out⟩
        | true =>
          have RR : Hid (Tb.Right ⟨se, sl, sv.map Ex.en, su.map Ex.en⟩) := QR.out.1 (by simp)
          clear QR d0 d1
          obtain ⟨x0, x1, x2, x3, _⟩ := blk4 BXs.out
          have hlx := BXs.out.lt
          go_wp2_with fail
          clear x0 x1 x2 x3 hlx
          have hp7 : w.heap.size < w3.heap.size := BXs.out.lt
          have hb : Below w3.heap.size w3 (w3.alloc (.cells #[.int .i64 se, .slice sA sn sc, .slice sA1 sn1 sc1, .slice sA2 sn2 sc2] 52)) := (gr1 w3 _).below
          have BXt := Lib.hid (Blk.new w3 52 #[.int .i64 se, .slice sA sn sc, .slice sA1 sn1 sc1, .slice sA2 sn2 sc2])
          have hs4 : (w3.alloc (.cells #[.int .i64 se, .slice sA sn sc, .slice sA1 sn1 sc1, .slice sA2 sn2 sc2] 52)).heap.size = w3.heap.size + 1 := by simp
          replace BXs := Lib.hid (Blk.below BXs.out hb BXs.out.lt)
          replace BB := Lib.hid (below_next BB.out (by have := BB.out.size; omega) hb)
          clear hb
          generalize w3.alloc (.cells #[.int .i64 se, .slice sA sn sc, .slice sA1 sn1 sc1, .slice sA2 sn2 sc2] 52) = w4 at *
          generalize hp7e : w3.heap.size = p7 at *
          clear hp7e
          have hS0 : Blk w4.drew w.heap.size 52 #[.int .i64 se, .slice sA sn sc, .slice sA1 sn1 sc1, .slice sA2 sn2 sc2] := BXs.out
          have hn2 : su.length = sn2 := LNs.out.n2
          have hc2 : sn2 ≤ sc2 := LNs.out.c2
          have hn80 : sn2 ≤ 80 := OKs.out.n2
          have hhd := run_headE sA2 sn2 sc2 j (by omega) hc2
          have hr8 := rd_dropE (R0.out.su.1) hn2 hj1 hc2
          have hw1 : IntKind.i64.wrap ((j : Int) + 1) = (j : Int) + 1 := by rw [IntKind.wrap_i64]; omega
          have hw2 : (0 : Int) ≤ (j : Int) + 1 := by omega
          have hw3 : (j : Int) + 1 ≤ (sn2 : Int) := by omega
          have hw4 : ((j : Int) + 1).toNat = j + 1 := by omega
          refine wp_region_held_drew (S := fun w' => Blk w' w.heap.size 52 #[.int .i64 se, .slice sA sn sc, .slice sA1 sn1 sc1, .slice sA2 sn2 sc2]) (by kernel_rfl) hS0 (fun _ => ?_)
          refine wpAnyH_yes (i := 1) (d := 37) (v := ?_) rfl rfl (by kernel_rfl) (by kernel_rfl) (by kernel_rfl) (fun _ _ _ h => h) (by rfl) ?_ hS0 ?_
          rotate_left
          · intro w' hSw; obtain ⟨r0, r1, r2, r3, _⟩ := blk4 hSw; go_simp <;> with_reducible rfl
          simp only [Act.put, List.setIfInBounds_toArray, List.set_cons_zero, List.set_cons_succ]
          refine wpAnyH_yes (i := 2) (d := 38) (v := ?_) rfl rfl (by kernel_rfl) (by kernel_rfl) (by kernel_rfl) (fun _ _ _ h => h) (by rfl) ?_ hS0 ?_
          rotate_left
          · intro w' hSw; obtain ⟨r0, r1, r2, r3, _⟩ := blk4 hSw; go_simp <;> with_reducible rfl
          simp only [Act.put, List.setIfInBounds_toArray, List.set_cons_zero, List.set_cons_succ]
          refine wpAnyH_yes (i := 3) (d := 39) (v := ?_) rfl rfl (by kernel_rfl) (by kernel_rfl) (by kernel_rfl) (fun _ _ _ h => h) (by rfl) ?_ hS0 ?_
          rotate_left
          · intro w' hSw; obtain ⟨r0, r1, r2, r3, _⟩ := blk4 hSw; go_simp <;> with_reducible rfl
          simp only [Act.put, List.setIfInBounds_toArray, List.set_cons_zero, List.set_cons_succ]
          refine wpAnyH_yes (i := 4) (d := 40) (v := ?_) rfl rfl (by kernel_rfl) (by kernel_rfl) (by kernel_rfl) (fun _ _ _ h => h) (by rfl) ?_ hS0 ?_
          rotate_left
          · intro w' hSw; obtain ⟨r0, r1, r2, r3, _⟩ := blk4 hSw; go_simp <;> with_reducible rfl
          simp only [Act.put, List.setIfInBounds_toArray, List.set_cons_zero, List.set_cons_succ]
          refine wpAnyH_yes (i := 6) (d := 42) (v := ?_) rfl rfl (by kernel_rfl) (by kernel_rfl) (by kernel_rfl) (fun _ _ _ h => h) (by rfl) ?_ hS0 ?_
          rotate_left
          · intro w' hSw; obtain ⟨r0, r1, r2, r3, _⟩ := blk4 hSw; go_simp <;> with_reducible rfl
          simp only [Act.put, List.setIfInBounds_toArray, List.set_cons_zero, List.set_cons_succ]
          refine wpAnyH_yes (i := 7) (d := 43) (v := ?_) rfl rfl (by kernel_rfl) (by kernel_rfl) (by kernel_rfl) (fun _ _ _ h => h) (by rfl) ?_ hS0 ?_
          rotate_left
          · intro w' hSw; obtain ⟨r0, r1, r2, r3, _⟩ := blk4 hSw; go_simp <;> with_reducible rfl
          simp only [Act.put, List.setIfInBounds_toArray, List.set_cons_zero, List.set_cons_succ]
          refine wpAnyH_yes (i := 8) (d := 44) (v := ?_) rfl rfl (by kernel_rfl) (by kernel_rfl) (by kernel_rfl) (fun _ _ _ h => h) (by rfl) ?_ hS0 ?_
          rotate_left
          · intro w' hSw; obtain ⟨r0, r1, r2, r3, _⟩ := blk4 hSw; go_simp <;> with_reducible rfl
          simp only [Act.put, List.setIfInBounds_toArray, List.set_cons_zero, List.set_cons_succ]
          refine wpAnyH_yes (i := 9) (d := 45) (v := ?_) rfl rfl (by kernel_rfl) (by kernel_rfl) (by kernel_rfl) (fun _ _ _ h => h) (by rfl) ?_ hS0 ?_
          rotate_left
          · intro w' hSw; obtain ⟨r0, r1, r2, r3, _⟩ := blk4 hSw; go_simp <;> with_reducible rfl
          simp only [Act.put, List.setIfInBounds_toArray, List.set_cons_zero, List.set_cons_succ]
          refine wpAnyH_yes (i := 10) (d := 46) (v := ?_) rfl rfl (by kernel_rfl) (by kernel_rfl) (by kernel_rfl) (fun _ _ _ h => h) (by rfl) ?_ hS0 ?_
          rotate_left
          · intro w' hSw; obtain ⟨r0, r1, r2, r3, _⟩ := blk4 hSw; go_simp <;> with_reducible rfl
          simp only [Act.put, List.setIfInBounds_toArray, List.set_cons_zero, List.set_cons_succ]
          have RK0 : Hid (RdK layE w (if sc2 = j + 1 then sA2 else Option.map (fun x => x.add ((j + 1) * 3)) sA2) (su.drop (j + 1))) := hr8
          generalize (if sc2 = j + 1 then sA2 else Option.map (fun x => x.add ((j + 1) * 3)) sA2) = A8 at *
          clear hr8 hhd hw1 hw2 hw3 hw4
          have BXs' : Hid (Blk w4.drew w.heap.size 52 #[.int .i64 se, .slice sA sn sc, .slice sA1 sn1 sc1, .slice sA2 sn2 sc2]) := BXs.out
          have BXt' : Hid (Blk w4.drew p7 52 #[.int .i64 se, .slice sA sn sc, .slice sA1 sn1 sc1, .slice sA2 sn2 sc2]) := BXt.out
          have BB' : Hid (Below w.heap.size w w4.drew) := BB.out.drew
          have hs5 : w4.drew.heap.size = p7 + 1 := hs4
          clear BXs BXt BB hs4 hS0
          have BXs := BXs'
          clear BXs'
          have BXt := BXt'
          clear BXt'
          have BB := BB'
          clear BB'
          generalize w4.drew = w5 at *
          refine wpAnyH_one (i := 0) (by kernel_rfl) rfl (by rfl) (fun K hK => ?_)
          go_simp
          have hO0 : OwnK layE (w5.alloc (.cells #[] 58)) (p7 + 1) (.slice (some ⟨w5.heap.size, 0, none⟩) 0 0) [] := OwnK.empty w5 (p7 + 1) (by omega)
          have hb : Below w5.heap.size w5 (w5.alloc (.cells #[] 58)) := (gr1 w5 _).below
          have hs6 : p7 + 1 ≤ (w5.alloc (.cells #[] 58)).heap.size := by have := hb.size; omega
          rw [hs5] at hO0
          replace BXs := Lib.hid (Blk.below BXs.out hb BXs.out.lt)
          replace BB := Lib.hid (below_next BB.out (by have := BB.out.size; omega) hb)
          replace BXt := Lib.hid (Blk.below BXt.out hb BXt.out.lt)
          clear hb
          generalize w5.alloc (.cells #[] 58) = w6 at *
          refine hK.out _ _ BXs.out ?_
          clear hK hs5
          refine wpAnyH_one (i := 5) (by kernel_rfl) rfl (by rfl) (fun K hK => ?_)
          refine op_append_k layE (.tmp 36) (.tmp 40) 50 underE (by rfl) (p7 + 1) _ ([]) (by rfl) hO0 sA2 (su.take j) (j) (sc2) (by rfl) (RdK.take (R0.out.below BB.out).su.1 j) (by rw [List.length_take, hn2]; omega) (by rw [maxLen_num]; simp; omega) (by simp [layE]; omega) hs6 ?_
          intro v5 w7 ho7 hbx
          have hbp : Below (p7 + 1) w6 w7 := hbx w6 (Below.refl _ _)
          clear hbx
          replace BXs := Lib.hid (Blk.below BXs.out hbp (by omega))
          replace BXt := Lib.hid (Blk.below BXt.out hbp (by omega))
          replace BB := Lib.hid (BB.out.trans (hbp.mono (by omega)))
          replace hs6 := Nat.le_trans hs6 hbp.size
          clear hbp
          rw [List.nil_append] at ho7
          have hl7 : (su.take j).length = j := by rw [List.length_take, hn2]; omega
          obtain ⟨A7, c7, hv7, hc7, _⟩ := OwnK.form ho7 hl7
          subst hv7
          refine hK.out _ _ BXs.out ?_
          clear hK
          simp only [Act.put, List.setIfInBounds_toArray, List.set_cons_zero, List.set_cons_succ]
          clear hO0
          refine wpAnyH_one (i := 11) (by kernel_rfl) rfl (by rfl) (fun K hK => ?_)
          refine op_append_k layE (.tmp 41) (.tmp 46) 50 underE (by rfl) (p7 + 1) _ (su.take j) (by rfl) ho7 A8 (su.drop (j + 1)) (sn2 - (j + 1)) (sc2 - (j + 1)) (by rfl) (RdK.below RK0.out BB.out) (by rw [List.length_drop, hn2]) (by rw [maxLen_num]; simp; omega) (by simp [layE]; omega) hs6 ?_
          intro v11 w8 ho9 hbx
          have hbp : Below (p7 + 1) w7 w8 := hbx w7 (Below.refl _ _)
          clear hbx
          replace BXs := Lib.hid (Blk.below BXs.out hbp (by omega))
          replace BXt := Lib.hid (Blk.below BXt.out hbp (by omega))
          replace BB := Lib.hid (BB.out.trans (hbp.mono (by omega)))
          replace hs6 := Nat.le_trans hs6 hbp.size
          clear hbp
          have hl9 : (su.take j ++ su.drop (j + 1)).length = sn2 - 1 := by rw [List.length_append, List.length_take, List.length_drop, hn2]; omega
          obtain ⟨A9, c9, hv9, hc9, _⟩ := OwnK.form ho9 hl9
          subst hv9
          refine hK.out _ _ BXs.out ?_
          clear hK
          simp only [Act.put, List.setIfInBounds_toArray, List.set_cons_zero, List.set_cons_succ]
          clear ho7
          refine wpAnyH_yes (i := 12) (d := 48) (v := ?_) rfl rfl (by kernel_rfl) (by kernel_rfl) (by kernel_rfl) (fun _ _ _ h => h) (by rfl) ?_ BXs.out ?_
          rotate_left
          · intro w' hSw; obtain ⟨r0, r1, r2, r3, _⟩ := blk4 hSw; go_simp <;> with_reducible rfl
          simp only [Act.put, List.setIfInBounds_toArray, List.set_cons_zero, List.set_cons_succ]
          refine wpAnyH_one (i := 13) (by kernel_rfl) rfl (by rfl) (fun K hK => ?_)
          obtain ⟨y0, y1, y2, y3, q0, q1, q2, q3⟩ := blk4 BXt.out
          have hly := BXt.out.lt
          go_simp
          have BXs' : Hid (Blk (w8.setCell ⟨p7, 3, none⟩ (.slice A9 (sn2 - 1) c9)) w.heap.size 52 #[.int .i64 se, .slice sA sn sc, .slice sA1 sn1 sc1, .slice sA2 sn2 sc2]) := Blk.far BXs.out (p := ⟨p7, 3, none⟩) (by show w.heap.size ≠ p7; omega) _
          have BXt' : Hid (Blk (w8.setCell ⟨p7, 3, none⟩ (.slice A9 (sn2 - 1) c9)) p7 52 #[.int .i64 se, .slice sA sn sc, .slice sA1 sn1 sc1, .slice A9 (sn2 - 1) c9]) := by have := Blk.put BXt.out 3 (.slice A9 (sn2 - 1) c9); show Blk _ _ _ _; simpa using this
          have BB' : Hid (Below w.heap.size w (w8.setCell ⟨p7, 3, none⟩ (.slice A9 (sn2 - 1) c9))) := below_set BB.out (by omega)
          have hO9 : OwnK layE (w8.setCell ⟨p7, 3, none⟩ (.slice A9 (sn2 - 1) c9)) (p7 + 1) (.slice A9 (sn2 - 1) c9) (cut su j) := OwnK.set_ ho9 (Nat.lt_succ_self p7) 3 _
          refine hK.out _ _ BXs'.out ?_
          clear hK BXs BXt BB ho9 y0 y1 y2 y3 q0 q1 q2 q3 hly
          have BXs := BXs'
          clear BXs'
          have BXt := BXt'
          clear BXt'
          have BB := BB'
          clear BB'
          refine wpAnyH_done (by kernel_rfl) ?_ _
          have Rt : Hid (Sx.Rd (w8.setCell ⟨p7, 3, none⟩ (.slice A9 (sn2 - 1) c9)) ⟨se, sA, sn, sc, sl, sA1, sn1, sc1, sv, A9, sn2 - 1, c9, cut su j⟩) := ⟨(R0.out.below BB.out).ls, (R0.out.below BB.out).av, rd_cut (R0.out.below BB.out).su (rdk_own hO9)⟩
          clear hO9
          generalize (w8.setCell ⟨p7, 3, none⟩ (.slice A9 (sn2 - 1) c9)) = w9 at *
          have hlc : (cut su j).length = sn2 - 1 := by have := cut_len (l := su) (k := j) (by omega); omega
          have LNt : Hid (Sx.Len ⟨se, sA, sn, sc, sl, sA1, sn1, sc1, sv, A9, sn2 - 1, c9, cut su j⟩) := ⟨LNs.out.n, LNs.out.c, LNs.out.n1, LNs.out.c1, hlc, hc9⟩
          have FWt : Hid (Sx.Few ⟨se, sA, sn, sc, sl, sA1, sn1, sc1, sv, A9, sn2 - 1, c9, cut su j⟩) := ⟨OKs.out.few.n, OKs.out.few.n1, by show sn2 - 1 ≤ 100000; omega, OKs.out.few.av, short_cut OKs.out.few.su⟩
          have PUt : Hid (PBs (cut su j)) := pbs_cut OKs.out.pu
          have HBK : Hid ((cut su j).map Ex.en = cut (su.map Ex.en) j) := cut_map _ _ _
          have hjm : j < (su.map Ex.en).length := by rw [List.length_map, hn2]; exact hj
          have hjl : j < su.length := by rw [hn2]; exact hj
          have RRt : Hid (Tb.Right (Sx.bk ⟨se, sA, sn, sc, sl, sA1, sn1, sc1, sv, A9, sn2 - 1, c9, cut su j⟩)) := by
            show Tb.Right ⟨se, sl, sv.map Ex.en, (cut su j).map Ex.en⟩
            rw [HBK.out]
            exact Right.less RR.out j
          have NSt : Hid (Sx.bk ⟨se, sA, sn, sc, sl, sA1, sn1, sc1, sv, sA2, sn2, sc2, su⟩ ≠ Sx.bk ⟨se, sA, sn, sc, sl, sA1, sn1, sc1, sv, A9, sn2 - 1, c9, cut su j⟩) := fun e => by
            have h1 := congrArg (fun b => b.su.length) e
            simp only [List.length_map] at h1
            omega
          have FND : Hid (findE ((cut su j).map Ex.en) (su[j]).id = none) := by
            show _ = _
            rw [HBK.out]
            have := findE_cut RR.out.su.2.1 hjm
            rwa [List.getElem_map] at this
          obtain ⟨g, off, hA2, hg, c0, _, _, _⟩ := RdEn.at3 R0.out.su hjl
          dsimp only at hA2 c0
          have c0w := c0
          have c0' := (BB.out.cell (p := ⟨g, off + j * 3, none⟩) hg).trans c0
          have w5' : (j : Int) < (sn2 : Int) := by omega
          obtain ⟨xi, hxi⟩ : ∃ xi, su[j].id = xi := ⟨_, rfl⟩
          rw [hxi] at c0' c0w FND
          clear c0 hxi
          have hS0 : Blk w9.drew w.heap.size 52 #[.int .i64 se, .slice sA sn sc, .slice sA1 sn1 sc1, .slice sA2 sn2 sc2] ∧ Blk w9.drew p7 52 #[.int .i64 se, .slice sA sn sc, .slice sA1 sn1 sc1, .slice A9 (sn2 - 1) c9] ∧ w9.drew.cell? ⟨g, off + j * 3, none⟩ = some (.int .i64 xi) := ⟨BXs.out, BXt.out, c0'⟩
          go_wp2_with fail
          refine wp_region_held_drew (S := fun w' => Blk w' w.heap.size 52 #[.int .i64 se, .slice sA sn sc, .slice sA1 sn1 sc1, .slice sA2 sn2 sc2] ∧ Blk w' p7 52 #[.int .i64 se, .slice sA sn sc, .slice sA1 sn1 sc1, .slice A9 (sn2 - 1) c9] ∧ w'.cell? ⟨g, off + j * 3, none⟩ = some (.int .i64 xi)) (by kernel_rfl) hS0 (fun _ => ?_)
          refine wpAnyH_yes (i := 0) (d := 50) (v := ?_) rfl rfl (by kernel_rfl) (by kernel_rfl) (by kernel_rfl) (fun _ _ _ h => h) (by rfl) ?_ hS0 ?_
          rotate_left
          · intro w' hSw; subst hA2; obtain ⟨r0, r1, r2, r3, _⟩ := blk4 hSw.1; obtain ⟨z0, z1, z2, z3, _⟩ := blk4 hSw.2.1; have r4 := hSw.2.2; go_simp <;> with_reducible rfl
          simp only [Act.put, List.setIfInBounds_toArray, List.set_cons_zero, List.set_cons_succ]
          refine wpAnyH_yes (i := 1) (d := 51) (v := ?_) rfl rfl (by kernel_rfl) (by kernel_rfl) (by kernel_rfl) (fun _ _ _ h => h) (by rfl) ?_ hS0 ?_
          rotate_left
          · intro w' hSw; subst hA2; obtain ⟨r0, r1, r2, r3, _⟩ := blk4 hSw.1; obtain ⟨z0, z1, z2, z3, _⟩ := blk4 hSw.2.1; have r4 := hSw.2.2; go_simp <;> with_reducible rfl
          simp only [Act.put, List.setIfInBounds_toArray, List.set_cons_zero, List.set_cons_succ]
          refine wpAnyH_yes (i := 2) (d := 52) (v := ?_) rfl rfl (by kernel_rfl) (by kernel_rfl) (by kernel_rfl) (fun _ _ _ h => h) (by rfl) ?_ hS0 ?_
          rotate_left
          · intro w' hSw; subst hA2; obtain ⟨r0, r1, r2, r3, _⟩ := blk4 hSw.1; obtain ⟨z0, z1, z2, z3, _⟩ := blk4 hSw.2.1; have r4 := hSw.2.2; go_simp <;> with_reducible rfl
          simp only [Act.put, List.setIfInBounds_toArray, List.set_cons_zero, List.set_cons_succ]
          refine wpAnyH_yes (i := 3) (d := 53) (v := ?_) rfl rfl (by kernel_rfl) (by kernel_rfl) (by kernel_rfl) (fun _ _ _ h => h) (by rfl) ?_ hS0 ?_
          rotate_left
          · intro w' hSw; subst hA2; obtain ⟨r0, r1, r2, r3, _⟩ := blk4 hSw.1; obtain ⟨z0, z1, z2, z3, _⟩ := blk4 hSw.2.1; have r4 := hSw.2.2; go_simp <;> with_reducible rfl
          simp only [Act.put, List.setIfInBounds_toArray, List.set_cons_zero, List.set_cons_succ]
          refine wpAnyH_yes (i := 4) (d := 54) (v := ?_) rfl rfl (by kernel_rfl) (by kernel_rfl) (by kernel_rfl) (fun _ _ _ h => h) (by rfl) ?_ hS0 ?_
          rotate_left
          · intro w' hSw; subst hA2; obtain ⟨r0, r1, r2, r3, _⟩ := blk4 hSw.1; obtain ⟨z0, z1, z2, z3, _⟩ := blk4 hSw.2.1; have r4 := hSw.2.2; go_simp <;> with_reducible rfl
          simp only [Act.put, List.setIfInBounds_toArray, List.set_cons_zero, List.set_cons_succ]
          refine wpAnyH_yes (i := 5) (d := 55) (v := ?_) rfl rfl (by kernel_rfl) (by kernel_rfl) (by kernel_rfl) (fun _ _ _ h => h) (by rfl) ?_ hS0 ?_
          rotate_left
          · intro w' hSw; subst hA2; obtain ⟨r0, r1, r2, r3, _⟩ := blk4 hSw.1; obtain ⟨z0, z1, z2, z3, _⟩ := blk4 hSw.2.1; have r4 := hSw.2.2; go_simp <;> with_reducible rfl
          simp only [Act.put, List.setIfInBounds_toArray, List.set_cons_zero, List.set_cons_succ]
          refine wpAnyH_yes (i := 6) (d := 56) (v := ?_) rfl rfl (by kernel_rfl) (by kernel_rfl) (by kernel_rfl) (fun _ _ _ h => h) (by rfl) ?_ hS0 ?_
          rotate_left
          · intro w' hSw; subst hA2; obtain ⟨r0, r1, r2, r3, _⟩ := blk4 hSw.1; obtain ⟨z0, z1, z2, z3, _⟩ := blk4 hSw.2.1; have r4 := hSw.2.2; go_simp <;> with_reducible rfl
          simp only [Act.put, List.setIfInBounds_toArray, List.set_cons_zero, List.set_cons_succ]
          refine wpAnyH_yes (i := 7) (d := 57) (v := ?_) rfl rfl (by kernel_rfl) (by kernel_rfl) (by kernel_rfl) (fun _ _ _ h => h) (by rfl) ?_ hS0 ?_
          rotate_left
          · intro w' hSw; subst hA2; obtain ⟨r0, r1, r2, r3, _⟩ := blk4 hSw.1; obtain ⟨z0, z1, z2, z3, _⟩ := blk4 hSw.2.1; have r4 := hSw.2.2; go_simp <;> with_reducible rfl
          simp only [Act.put, List.setIfInBounds_toArray, List.set_cons_zero, List.set_cons_succ]
          replace BXs := Lib.hid (Blk.below BXs.out (show Below w9.heap.size w9 w9.drew from (Below.refl _ _).drew) BXs.out.lt)
          replace BXt := Lib.hid (Blk.below BXt.out (show Below w9.heap.size w9 w9.drew from (Below.refl _ _).drew) BXt.out.lt)
          replace Rt := Lib.hid (Rt.out.below (show Below w9.heap.size w9 w9.drew from (Below.refl _ _).drew))
          replace BB := Lib.hid (BB.out.drew)
          generalize w9.drew = w10 at *
          subst hA2
          refine wpAnyH_pr (i := 8) (j := 12) (by kernel_rfl) rfl rfl (by rfl) (by rfl) (fun Ka hKa => ?_) (fun Kb hKb => ?_)
          · skip
            go_simp
            with_reducible refine (find_at A9 (cut su j) (sn2 - 1) c9 xi LNt.out.n2 FWt.out.n2 FWt.out.su w10 Rt.out.su none FND.out).mono ?_
            rintro e w11 ⟨⟨yi, yr, yA, yn, yc, yf⟩, rfl, hye, hfl, hb⟩
            clear hye hfl
            replace BXs := Lib.hid (Blk.below BXs.out hb BXs.out.lt)
            replace BXt := Lib.hid (Blk.below BXt.out hb BXt.out.lt)
            replace Rt := Lib.hid (Rt.out.below hb)
            replace BB := Lib.hid (below_next BB.out (by have := BB.out.size; omega) hb)
            clear hb
            go_wp2_with fail
            refine hKa.out _ _ ⟨BXs.out, BXt.out, (BB.out.cell (p := ⟨g, off + j * 3, none⟩) hg).trans c0w⟩ ?_
            clear hKa
            refine wpAnyH_yes (i := 9) (d := 49) (v := ?_) rfl rfl (by kernel_rfl) (by kernel_rfl) (by kernel_rfl) (fun _ _ _ h => h) (by rfl) ?_ ⟨BXs.out, BXt.out, (BB.out.cell (p := ⟨g, off + j * 3, none⟩) hg).trans c0w⟩ ?_
            rotate_left
            · intro w' hSw; skip; go_simp <;> with_reducible rfl
            simp only [Act.put, List.setIfInBounds_toArray, List.set_cons_zero, List.set_cons_succ]
            refine wpAnyH_yes (i := 10) (d := 59) (v := ?_) rfl rfl (by kernel_rfl) (by kernel_rfl) (by kernel_rfl) (fun _ _ _ h => h) (by rfl) ?_ ⟨BXs.out, BXt.out, (BB.out.cell (p := ⟨g, off + j * 3, none⟩) hg).trans c0w⟩ ?_
            rotate_left
            · intro w' hSw; skip; go_simp <;> with_reducible rfl
            simp only [Act.put, List.setIfInBounds_toArray, List.set_cons_zero, List.set_cons_succ]
            refine wpAnyH_yes (i := 11) (d := 60) (v := ?_) rfl rfl (by kernel_rfl) (by kernel_rfl) (by kernel_rfl) (fun _ _ _ h => h) (by rfl) ?_ ⟨BXs.out, BXt.out, (BB.out.cell (p := ⟨g, off + j * 3, none⟩) hg).trans c0w⟩ ?_
            rotate_left
            · intro w' hSw; skip; go_simp <;> with_reducible rfl
            simp only [Act.put, List.setIfInBounds_toArray, List.set_cons_zero, List.set_cons_succ]
            refine wpAnyH_one (i := 12) (by kernel_rfl) rfl (by rfl) (fun K hK => ?_)
            go_simp
            have BXe := Lib.hid (Blk.new w11 58 #[.int .i64 0, .int .i64 0, .slice none 0 0])
            have BP := Lib.hid (gr1 w11 (.cells #[.int .i64 0, .int .i64 0, .slice none 0 0] 58)).below
            have hpe1 := BXs.out.lt
            have hpe2 := BXt.out.lt
            generalize w11.alloc (.cells #[.int .i64 0, .int .i64 0, .slice none 0 0] 58) = w12 at *
            generalize hpe : w11.heap.size = pe at *
            refine hK.out _ _ ⟨Blk.below BXs.out BP.out hpe1, Blk.below BXt.out BP.out hpe2, ((below_at BB.out hpe BP.out).cell (p := ⟨g, off + j * 3, none⟩) hg).trans c0w⟩ ?_
            clear hK
            refine wpAnyH_one (i := 13) (by kernel_rfl) rfl (by rfl) (fun K hK => ?_)
            obtain ⟨y0, y1, y2, q0, q1, q2⟩ := blk3 BXe.out
            have hly := BXe.out.lt
            go_simp
            replace BP : Hid (Below pe _ (((w12.setCell ⟨pe, 0, none⟩ (.int .i64 yi)).setCell ⟨pe, 1, none⟩ (.int .i64 yr)).setCell ⟨pe, 2, none⟩ (.slice yA yn yc))) := below_put3 BP.out (Nat.le_refl pe)  _ _ _
            replace BXe : Hid (Blk (((w12.setCell ⟨pe, 0, none⟩ (.int .i64 yi)).setCell ⟨pe, 1, none⟩ (.int .i64 yr)).setCell ⟨pe, 2, none⟩ (.slice yA yn yc)) pe 58 #[.int .i64 yi, .int .i64 yr, .slice yA yn yc]) := Blk.put3 BXe.out  _ _ _
            refine hK.out _ _ ⟨Blk.below BXs.out BP.out hpe1, Blk.below BXt.out BP.out hpe2, ((below_at BB.out hpe BP.out).cell (p := ⟨g, off + j * 3, none⟩) hg).trans c0w⟩ ?_
            clear hK y0 y1 y2 q0 q1 q2 hly
            refine wpAnyH_yes (i := 14) (d := 9) (v := ?_) rfl rfl (by kernel_rfl) (by kernel_rfl) (by kernel_rfl) (fun _ _ _ h => h) (by rfl) ?_ ⟨Blk.below BXs.out BP.out hpe1, Blk.below BXt.out BP.out hpe2, ((below_at BB.out hpe BP.out).cell (p := ⟨g, off + j * 3, none⟩) hg).trans c0w⟩ ?_
            rotate_left
            · intro w' hSw; skip; go_simp <;> with_reducible rfl
            simp only [Act.put, List.setIfInBounds_toArray, List.set_cons_zero, List.set_cons_succ]
            refine wpAnyH_done (by kernel_rfl) ?_ _
            have hb : Below w11.heap.size w11 (((w12.setCell ⟨pe, 0, none⟩ (.int .i64 yi)).setCell ⟨pe, 1, none⟩ (.int .i64 yr)).setCell ⟨pe, 2, none⟩ (.slice yA yn yc)) := by rw [hpe]; exact BP.out
            generalize (((w12.setCell ⟨pe, 0, none⟩ (.int .i64 yi)).setCell ⟨pe, 1, none⟩ (.int .i64 yr)).setCell ⟨pe, 2, none⟩ (.slice yA yn yc)) = w13 at *
            clear BP
            replace BXs := Lib.hid (Blk.below BXs.out hb BXs.out.lt)
            replace BXt := Lib.hid (Blk.below BXt.out hb BXt.out.lt)
            replace Rt := Lib.hid (Rt.out.below hb)
            replace BB := Lib.hid (below_next BB.out (by have := BB.out.size; omega) hb)
            clear hb
            clear hpe hpe1 hpe2
            clear BXe
            go_wp2_with fail
            go_loopg [10] sn2 (fun gg s10 wr => ∃ i : Nat, i ≤ sn2 ∧ sn2 - i ≤ gg ∧ s10 = .int .i64 (i : Int) ∧ Hid (Below w.heap.size w wr) ∧ Hid (Blk wr w.heap.size 52 #[.int .i64 se, .slice sA sn sc, .slice sA1 sn1 sc1, .slice (some ⟨g, off, none⟩) sn2 sc2]) ∧ Hid (Blk wr p7 52 #[.int .i64 se, .slice sA sn sc, .slice sA1 sn1 sc1, .slice A9 (sn2 - 1) c9]) ∧ Hid (Sx.Rd wr ⟨se, sA, sn, sc, sl, sA1, sn1, sc1, sv, A9, sn2 - 1, c9, cut su j⟩))
            case atStart => exact ⟨0, Nat.zero_le _, by omega, rfl, BB, BXs, BXt, Rt⟩
            case round =>
              clear BB BXs BXt Rt
              obtain ⟨i, hi, hgg, rfl, BB, BXs, BXt, Rt⟩ := hrel
              obtain ⟨x0, x1, x2, x3, _⟩ := blk4 BXs.out
              have hlx := BXs.out.lt
              by_cases hlt : i < sn2
              · have hil : i < su.length := by rw [hn2]; exact hlt
                obtain ⟨g1, off1, hA3, hg1, e0, e1, e2, hfi⟩ := RdEn.at3 R0.out.su hil
                dsimp only at hA3 e0 e1 e2
                injection hA3 with hA3
                injection hA3 with hA3 hA4 _
                subst hA3; subst hA4
                have w6' : (i : Int) < (sn2 : Int) := by omega
                have hfs := OKs.out.few.su _ (List.getElem_mem hil)
                obtain ⟨z, hz⟩ : ∃ z, su[i] = z := ⟨_, rfl⟩
                have HZ := Lib.hid hz
                rw [hz] at e0 e1 e2 hfi hfs
                clear hz
                obtain ⟨zi, zr, zA, zn, zc, zf⟩ := z
                dsimp only at e0 e1 e2 hfs
                have HFI := Lib.hid hfi
                clear hfi
                have FN2 : Hid (findE (su.map Ex.en) zi = some ⟨zi, zr, zf⟩) := by
                  have h1 : (⟨zi, zr, zf⟩ : En) ∈ su.map Ex.en := List.mem_map.2 ⟨_, List.getElem_mem hil, by rw [HZ.out]⟩
                  exact findE_self RR.out.su.2.1 h1
                go_wp2_with fail
                clear x0 x1 x2 x3 hlx
                have e0' := (BB.out.cell (p := ⟨g, off + i * 3, none⟩) hg).trans e0
                have hS0 : Blk wr.drew w.heap.size 52 #[.int .i64 se, .slice sA sn sc, .slice sA1 sn1 sc1, .slice (some ⟨g, off, none⟩) sn2 sc2] ∧ wr.drew.cell? ⟨g, off + i * 3, none⟩ = some (.int .i64 zi) := ⟨BXs.out, e0'⟩
                refine wp_region_held_drew (S := fun w' => Blk w' w.heap.size 52 #[.int .i64 se, .slice sA sn sc, .slice sA1 sn1 sc1, .slice (some ⟨g, off, none⟩) sn2 sc2] ∧ w'.cell? ⟨g, off + i * 3, none⟩ = some (.int .i64 zi)) (by kernel_rfl) hS0 (fun _ => ?_)
                refine wpAnyH_yes (i := 0) (d := 69) (v := ?_) rfl rfl (by kernel_rfl) (by kernel_rfl) (by kernel_rfl) (fun _ _ _ h => h) (by rfl) ?_ hS0 ?_
                rotate_left
                · intro w' hSw; obtain ⟨r0, r1, r2, r3, _⟩ := blk4 hSw.1; have r4 := hSw.2; go_simp <;> with_reducible rfl
                simp only [Act.put, List.setIfInBounds_toArray, List.set_cons_zero, List.set_cons_succ]
                refine wpAnyH_yes (i := 1) (d := 70) (v := ?_) rfl rfl (by kernel_rfl) (by kernel_rfl) (by kernel_rfl) (fun _ _ _ h => h) (by rfl) ?_ hS0 ?_
                rotate_left
                · intro w' hSw; obtain ⟨r0, r1, r2, r3, _⟩ := blk4 hSw.1; have r4 := hSw.2; go_simp <;> with_reducible rfl
                simp only [Act.put, List.setIfInBounds_toArray, List.set_cons_zero, List.set_cons_succ]
                refine wpAnyH_yes (i := 2) (d := 71) (v := ?_) rfl rfl (by kernel_rfl) (by kernel_rfl) (by kernel_rfl) (fun _ _ _ h => h) (by rfl) ?_ hS0 ?_
                rotate_left
                · intro w' hSw; obtain ⟨r0, r1, r2, r3, _⟩ := blk4 hSw.1; have r4 := hSw.2; go_simp <;> with_reducible rfl
                simp only [Act.put, List.setIfInBounds_toArray, List.set_cons_zero, List.set_cons_succ]
                refine wpAnyH_yes (i := 3) (d := 72) (v := ?_) rfl rfl (by kernel_rfl) (by kernel_rfl) (by kernel_rfl) (fun _ _ _ h => h) (by rfl) ?_ hS0 ?_
                rotate_left
                · intro w' hSw; obtain ⟨r0, r1, r2, r3, _⟩ := blk4 hSw.1; have r4 := hSw.2; go_simp <;> with_reducible rfl
                simp only [Act.put, List.setIfInBounds_toArray, List.set_cons_zero, List.set_cons_succ]
                refine wpAnyH_yes (i := 4) (d := 73) (v := ?_) rfl rfl (by kernel_rfl) (by kernel_rfl) (by kernel_rfl) (fun _ _ _ h => h) (by rfl) ?_ hS0 ?_
                rotate_left
                · intro w' hSw; obtain ⟨r0, r1, r2, r3, _⟩ := blk4 hSw.1; have r4 := hSw.2; go_simp <;> with_reducible rfl
                simp only [Act.put, List.setIfInBounds_toArray, List.set_cons_zero, List.set_cons_succ]
                refine wpAnyH_yes (i := 5) (d := 74) (v := ?_) rfl rfl (by kernel_rfl) (by kernel_rfl) (by kernel_rfl) (fun _ _ _ h => h) (by rfl) ?_ hS0 ?_
                rotate_left
                · intro w' hSw; obtain ⟨r0, r1, r2, r3, _⟩ := blk4 hSw.1; have r4 := hSw.2; go_simp <;> with_reducible rfl
                simp only [Act.put, List.setIfInBounds_toArray, List.set_cons_zero, List.set_cons_succ]
                refine wpAnyH_yes (i := 6) (d := 75) (v := ?_) rfl rfl (by kernel_rfl) (by kernel_rfl) (by kernel_rfl) (fun _ _ _ h => h) (by rfl) ?_ hS0 ?_
                rotate_left
                · intro w' hSw; obtain ⟨r0, r1, r2, r3, _⟩ := blk4 hSw.1; have r4 := hSw.2; go_simp <;> with_reducible rfl
                simp only [Act.put, List.setIfInBounds_toArray, List.set_cons_zero, List.set_cons_succ]
                refine wpAnyH_yes (i := 7) (d := 76) (v := ?_) rfl rfl (by kernel_rfl) (by kernel_rfl) (by kernel_rfl) (fun _ _ _ h => h) (by rfl) ?_ hS0 ?_
                rotate_left
                · intro w' hSw; obtain ⟨r0, r1, r2, r3, _⟩ := blk4 hSw.1; have r4 := hSw.2; go_simp <;> with_reducible rfl
                simp only [Act.put, List.setIfInBounds_toArray, List.set_cons_zero, List.set_cons_succ]
                clear e0'
                replace BXs := Lib.hid (Blk.below BXs.out (show Below wr.heap.size wr wr.drew from (Below.refl _ _).drew) BXs.out.lt)
                replace BXt := Lib.hid (Blk.below BXt.out (show Below wr.heap.size wr wr.drew from (Below.refl _ _).drew) BXt.out.lt)
                replace Rt := Lib.hid (Rt.out.below (show Below wr.heap.size wr wr.drew from (Below.refl _ _).drew))
                replace BB := Lib.hid (BB.out.drew)
                generalize wr.drew = w14 at *
                refine wpAnyH_pr (i := 8) (j := 12) (by kernel_rfl) rfl rfl (by rfl) (by rfl) (fun Ka hKa => ?_) (fun Kb hKb => ?_)
                · skip
                  go_simp
                  with_reducible refine (find_at _ su sn2 sc2 zi hn2 (by omega) OKs.out.few.su w14 (R0.out.below BB.out).su (some ⟨zi, zr, zf⟩) FN2.out).mono ?_
                  rintro e w15 ⟨⟨yi, yr, yA, yn, yc, yf⟩, rfl, hye, hfl, hb⟩
                  have HYE := Lib.hid hye
                  have FY := Lib.hid hfl.rd
                  clear hye hfl
                  replace BXs := Lib.hid (Blk.below BXs.out hb BXs.out.lt)
                  replace BXt := Lib.hid (Blk.below BXt.out hb BXt.out.lt)
                  replace Rt := Lib.hid (Rt.out.below hb)
                  replace BB := Lib.hid (below_next BB.out (by have := BB.out.size; omega) hb)
                  clear hb
                  go_wp2_with fail
                  refine hKa.out _ _ ⟨BXs.out, (BB.out.cell (p := ⟨g, off + i * 3, none⟩) hg).trans e0⟩ ?_
                  clear hKa
                  refine wpAnyH_yes (i := 9) (d := 68) (v := ?_) rfl rfl (by kernel_rfl) (by kernel_rfl) (by kernel_rfl) (fun _ _ _ h => h) (by rfl) ?_ ⟨BXs.out, (BB.out.cell (p := ⟨g, off + i * 3, none⟩) hg).trans e0⟩ ?_
                  rotate_left
                  · intro w' hSw; skip; go_simp <;> with_reducible rfl
                  simp only [Act.put, List.setIfInBounds_toArray, List.set_cons_zero, List.set_cons_succ]
                  refine wpAnyH_yes (i := 10) (d := 78) (v := ?_) rfl rfl (by kernel_rfl) (by kernel_rfl) (by kernel_rfl) (fun _ _ _ h => h) (by rfl) ?_ ⟨BXs.out, (BB.out.cell (p := ⟨g, off + i * 3, none⟩) hg).trans e0⟩ ?_
                  rotate_left
                  · intro w' hSw; skip; go_simp <;> with_reducible rfl
                  simp only [Act.put, List.setIfInBounds_toArray, List.set_cons_zero, List.set_cons_succ]
                  refine wpAnyH_yes (i := 11) (d := 79) (v := ?_) rfl rfl (by kernel_rfl) (by kernel_rfl) (by kernel_rfl) (fun _ _ _ h => h) (by rfl) ?_ ⟨BXs.out, (BB.out.cell (p := ⟨g, off + i * 3, none⟩) hg).trans e0⟩ ?_
                  rotate_left
                  · intro w' hSw; skip; go_simp <;> with_reducible rfl
                  simp only [Act.put, List.setIfInBounds_toArray, List.set_cons_zero, List.set_cons_succ]
                  refine wpAnyH_one (i := 12) (by kernel_rfl) rfl (by rfl) (fun K hK => ?_)
                  go_simp
                  have BXe := Lib.hid (Blk.new w15 58 #[.int .i64 0, .int .i64 0, .slice none 0 0])
                  have BP := Lib.hid (gr1 w15 (.cells #[.int .i64 0, .int .i64 0, .slice none 0 0] 58)).below
                  have hpe1 := BXs.out.lt
                  have hpe2 := BXt.out.lt
                  generalize w15.alloc (.cells #[.int .i64 0, .int .i64 0, .slice none 0 0] 58) = w16 at *
                  generalize hpe : w15.heap.size = pe at *
                  refine hK.out _ _ ⟨Blk.below BXs.out BP.out hpe1, ((below_at BB.out hpe BP.out).cell (p := ⟨g, off + i * 3, none⟩) hg).trans e0⟩ ?_
                  clear hK
                  refine wpAnyH_one (i := 13) (by kernel_rfl) rfl (by rfl) (fun K hK => ?_)
                  obtain ⟨y0, y1, y2, q0, q1, q2⟩ := blk3 BXe.out
                  have hly := BXe.out.lt
                  go_simp
                  replace BP : Hid (Below pe _ (((w16.setCell ⟨pe, 0, none⟩ (.int .i64 yi)).setCell ⟨pe, 1, none⟩ (.int .i64 yr)).setCell ⟨pe, 2, none⟩ (.slice yA yn yc))) := below_put3 BP.out (Nat.le_refl pe)  _ _ _
                  replace BXe : Hid (Blk (((w16.setCell ⟨pe, 0, none⟩ (.int .i64 yi)).setCell ⟨pe, 1, none⟩ (.int .i64 yr)).setCell ⟨pe, 2, none⟩ (.slice yA yn yc)) pe 58 #[.int .i64 yi, .int .i64 yr, .slice yA yn yc]) := Blk.put3 BXe.out  _ _ _
                  refine hK.out _ _ ⟨Blk.below BXs.out BP.out hpe1, ((below_at BB.out hpe BP.out).cell (p := ⟨g, off + i * 3, none⟩) hg).trans e0⟩ ?_
                  clear hK y0 y1 y2 q0 q1 q2 hly
                  refine wpAnyH_yes (i := 14) (d := 12) (v := ?_) rfl rfl (by kernel_rfl) (by kernel_rfl) (by kernel_rfl) (fun _ _ _ h => h) (by rfl) ?_ ⟨Blk.below BXs.out BP.out hpe1, ((below_at BB.out hpe BP.out).cell (p := ⟨g, off + i * 3, none⟩) hg).trans e0⟩ ?_
                  rotate_left
                  · intro w' hSw; skip; go_simp <;> with_reducible rfl
                  simp only [Act.put, List.setIfInBounds_toArray, List.set_cons_zero, List.set_cons_succ]
                  refine wpAnyH_done (by kernel_rfl) ?_ _
                  have hb : Below w15.heap.size w15 (((w16.setCell ⟨pe, 0, none⟩ (.int .i64 yi)).setCell ⟨pe, 1, none⟩ (.int .i64 yr)).setCell ⟨pe, 2, none⟩ (.slice yA yn yc)) := by rw [hpe]; exact BP.out
                  generalize (((w16.setCell ⟨pe, 0, none⟩ (.int .i64 yi)).setCell ⟨pe, 1, none⟩ (.int .i64 yr)).setCell ⟨pe, 2, none⟩ (.slice yA yn yc)) = w17 at *
                  clear BP
                  replace BXs := Lib.hid (Blk.below BXs.out hb BXs.out.lt)
                  replace BXt := Lib.hid (Blk.below BXt.out hb BXt.out.lt)
                  replace Rt := Lib.hid (Rt.out.below hb)
                  replace BB := Lib.hid (below_next BB.out (by have := BB.out.size; omega) hb)
                  replace FY := Lib.hid (FY.out.below hb)
                  clear hb
                  clear hpe hpe1 hpe2
                  obtain ⟨b0, b1, b2, b3⟩ := gx4 BXs.out
                  obtain ⟨f0, f1, f2⟩ := gx3 BXe.out
                  have k0 := gx_cell ((BB.out.cell (p := ⟨g, off + i * 3, none⟩) hg).trans e0)
                  have k1 := gx_cell ((BB.out.cell (p := ⟨g, off + i * 3 + 1, none⟩) hg).trans e1)
                  have k2 := gx_cell ((BB.out.cell (p := ⟨g, off + i * 3 + 2, none⟩) hg).trans e2)
                  injection HYE.out with v1 v2 v3
                  subst v1; subst v2; subst v3
                  have C1 := Lib.hid (fun n os => one_at ⟨yi, yr, yA, yn, yc, yf⟩ ⟨yi, yr, zA, zn, zc, yf⟩ FY.out.1 (by have h1 := FY.out.1; have h2 := HFI.out.1; dsimp only at h1 h2 ⊢; omega) HFI.out.1 hfs (gx w17 n os) (FY.out.below (below_gx w17 n os)).2.2 ((HFI.out.below BB.out).below (below_gx w17 n os)).2.2 true (decide_eq_true rfl))
                  go_wp2_with fail
                  (refine qb_region mixedT (by kernel_rfl) ?_; (repeat (refine hq_step (fun K hK => ?_); go_simp; first | (refine hK _ ?_; clear hK K) | (apply Exists.intro; refine ⟨fun _ => ?_, hK _ ?_⟩; (go_at_call 36; with_reducible exact calls_gx (C1.out _ _)); clear hK K))); refine hq_nil ?_; intro _ hw'; obtain ⟨⟨nq, osq⟩, hw''⟩ := hw'; subst hw'')
                  clear b0 b1 b2 b3 f0 f1 f2 k0 k1 k2 C1
                  have hb := below_gx w17 nq osq
                  generalize gx w17 nq osq = w18 at *
                  replace BXs := Lib.hid (Blk.below BXs.out hb BXs.out.lt)
                  replace BXt := Lib.hid (Blk.below BXt.out hb BXt.out.lt)
                  replace Rt := Lib.hid (Rt.out.below hb)
                  replace BB := Lib.hid (below_next BB.out (by have := BB.out.size; omega) hb)
                  replace BXe := Lib.hid (Blk.below BXe.out hb BXe.out.lt)
                  replace FY := Lib.hid (FY.out.below hb)
                  clear hb
                  go_wp2_with fail
                  go_roundg (sn2 - (i + 1))
                  case measure => omega
                  case rel => exact ⟨i + 1, by omega, Nat.le_refl _, by go_num, BB, BXs, BXt, Rt⟩
                · skip
                  go_simp
                  have BXe := Lib.hid (Blk.new w14 58 #[.int .i64 0, .int .i64 0, .slice none 0 0])
                  have BP := Lib.hid (gr1 w14 (.cells #[.int .i64 0, .int .i64 0, .slice none 0 0] 58)).below
                  have hpe1 := BXs.out.lt
                  have hpe2 := BXt.out.lt
                  generalize w14.alloc (.cells #[.int .i64 0, .int .i64 0, .slice none 0 0] 58) = w15 at *
                  generalize hpe : w14.heap.size = pe at *
                  refine hKb.out _ _ ⟨Blk.below BXs.out BP.out hpe1, ((below_at BB.out hpe BP.out).cell (p := ⟨g, off + i * 3, none⟩) hg).trans e0⟩ ?_
                  clear hKb
                  refine wpAnyH_one (i := 8) (by kernel_rfl) rfl (by rfl) (fun K hK => ?_)
                  go_simp
                  with_reducible refine (find_at _ su sn2 sc2 zi hn2 (by omega) OKs.out.few.su w15 (R0.out.below (below_at BB.out hpe BP.out)).su (some ⟨zi, zr, zf⟩) FN2.out).mono ?_
                  rintro e w16 ⟨⟨yi, yr, yA, yn, yc, yf⟩, rfl, hye, hfl, hb⟩
                  have HYE := Lib.hid hye
                  have FYO := Lib.hid (hfl.less (show pe + 1 ≤ _ from BXe.out.lt))
                  clear hye hfl
                  replace BP := Lib.hid (below_next BP.out (by have := BP.out.size; omega) hb)
                  replace BXe := Lib.hid (Blk.below BXe.out hb BXe.out.lt)
                  clear hb
                  go_wp2_with fail
                  refine hK.out _ _ ⟨Blk.below BXs.out BP.out hpe1, ((below_at BB.out hpe BP.out).cell (p := ⟨g, off + i * 3, none⟩) hg).trans e0⟩ ?_
                  clear hK
                  refine wpAnyH_yes (i := 9) (d := 68) (v := ?_) rfl rfl (by kernel_rfl) (by kernel_rfl) (by kernel_rfl) (fun _ _ _ h => h) (by rfl) ?_ ⟨Blk.below BXs.out BP.out hpe1, ((below_at BB.out hpe BP.out).cell (p := ⟨g, off + i * 3, none⟩) hg).trans e0⟩ ?_
                  rotate_left
                  · intro w' hSw; skip; go_simp <;> with_reducible rfl
                  simp only [Act.put, List.setIfInBounds_toArray, List.set_cons_zero, List.set_cons_succ]
                  refine wpAnyH_yes (i := 10) (d := 78) (v := ?_) rfl rfl (by kernel_rfl) (by kernel_rfl) (by kernel_rfl) (fun _ _ _ h => h) (by rfl) ?_ ⟨Blk.below BXs.out BP.out hpe1, ((below_at BB.out hpe BP.out).cell (p := ⟨g, off + i * 3, none⟩) hg).trans e0⟩ ?_
                  rotate_left
                  · intro w' hSw; skip; go_simp <;> with_reducible rfl
                  simp only [Act.put, List.setIfInBounds_toArray, List.set_cons_zero, List.set_cons_succ]
                  refine wpAnyH_yes (i := 11) (d := 79) (v := ?_) rfl rfl (by kernel_rfl) (by kernel_rfl) (by kernel_rfl) (fun _ _ _ h => h) (by rfl) ?_ ⟨Blk.below BXs.out BP.out hpe1, ((below_at BB.out hpe BP.out).cell (p := ⟨g, off + i * 3, none⟩) hg).trans e0⟩ ?_
                  rotate_left
                  · intro w' hSw; skip; go_simp <;> with_reducible rfl
                  simp only [Act.put, List.setIfInBounds_toArray, List.set_cons_zero, List.set_cons_succ]
                  refine wpAnyH_one (i := 13) (by kernel_rfl) rfl (by rfl) (fun K hK => ?_)
                  obtain ⟨y0, y1, y2, q0, q1, q2⟩ := blk3 BXe.out
                  have hly := BXe.out.lt
                  go_simp
                  replace BP : Hid (Below pe _ (((w16.setCell ⟨pe, 0, none⟩ (.int .i64 yi)).setCell ⟨pe, 1, none⟩ (.int .i64 yr)).setCell ⟨pe, 2, none⟩ (.slice yA yn yc))) := below_put3 BP.out (Nat.le_refl pe)  _ _ _
                  replace BXe : Hid (Blk (((w16.setCell ⟨pe, 0, none⟩ (.int .i64 yi)).setCell ⟨pe, 1, none⟩ (.int .i64 yr)).setCell ⟨pe, 2, none⟩ (.slice yA yn yc)) pe 58 #[.int .i64 yi, .int .i64 yr, .slice yA yn yc]) := Blk.put3 BXe.out  _ _ _
                  have FY : Hid (Flt (((w16.setCell ⟨pe, 0, none⟩ (.int .i64 yi)).setCell ⟨pe, 1, none⟩ (.int .i64 yr)).setCell ⟨pe, 2, none⟩ (.slice yA yn yc)) ⟨yi, yr, yA, yn, yc, yf⟩) := FltO.rd ⟨FYO.out.1, FYO.out.2.1, OwnK.put3 FYO.out.2.2 (Nat.lt_succ_self pe) _ _ _⟩
                  clear FYO
                  refine hK.out _ _ ⟨Blk.below BXs.out BP.out hpe1, ((below_at BB.out hpe BP.out).cell (p := ⟨g, off + i * 3, none⟩) hg).trans e0⟩ ?_
                  clear hK y0 y1 y2 q0 q1 q2 hly
                  refine wpAnyH_yes (i := 14) (d := 12) (v := ?_) rfl rfl (by kernel_rfl) (by kernel_rfl) (by kernel_rfl) (fun _ _ _ h => h) (by rfl) ?_ ⟨Blk.below BXs.out BP.out hpe1, ((below_at BB.out hpe BP.out).cell (p := ⟨g, off + i * 3, none⟩) hg).trans e0⟩ ?_
                  rotate_left
                  · intro w' hSw; skip; go_simp <;> with_reducible rfl
                  simp only [Act.put, List.setIfInBounds_toArray, List.set_cons_zero, List.set_cons_succ]
                  refine wpAnyH_done (by kernel_rfl) ?_ _
                  have hb : Below w14.heap.size w14 (((w16.setCell ⟨pe, 0, none⟩ (.int .i64 yi)).setCell ⟨pe, 1, none⟩ (.int .i64 yr)).setCell ⟨pe, 2, none⟩ (.slice yA yn yc)) := by rw [hpe]; exact BP.out
                  generalize (((w16.setCell ⟨pe, 0, none⟩ (.int .i64 yi)).setCell ⟨pe, 1, none⟩ (.int .i64 yr)).setCell ⟨pe, 2, none⟩ (.slice yA yn yc)) = w17 at *
                  clear BP
                  replace BXs := Lib.hid (Blk.below BXs.out hb BXs.out.lt)
                  replace BXt := Lib.hid (Blk.below BXt.out hb BXt.out.lt)
                  replace Rt := Lib.hid (Rt.out.below hb)
                  replace BB := Lib.hid (below_next BB.out (by have := BB.out.size; omega) hb)
                  clear hb
                  clear hpe hpe1 hpe2
                  obtain ⟨b0, b1, b2, b3⟩ := gx4 BXs.out
                  obtain ⟨f0, f1, f2⟩ := gx3 BXe.out
                  have k0 := gx_cell ((BB.out.cell (p := ⟨g, off + i * 3, none⟩) hg).trans e0)
                  have k1 := gx_cell ((BB.out.cell (p := ⟨g, off + i * 3 + 1, none⟩) hg).trans e1)
                  have k2 := gx_cell ((BB.out.cell (p := ⟨g, off + i * 3 + 2, none⟩) hg).trans e2)
                  injection HYE.out with v1 v2 v3
                  subst v1; subst v2; subst v3
                  have C1 := Lib.hid (fun n os => one_at ⟨yi, yr, yA, yn, yc, yf⟩ ⟨yi, yr, zA, zn, zc, yf⟩ FY.out.1 (by have h1 := FY.out.1; have h2 := HFI.out.1; dsimp only at h1 h2 ⊢; omega) HFI.out.1 hfs (gx w17 n os) (FY.out.below (below_gx w17 n os)).2.2 ((HFI.out.below BB.out).below (below_gx w17 n os)).2.2 true (decide_eq_true rfl))
                  go_wp2_with fail
                  (refine qb_region mixedT (by kernel_rfl) ?_; (repeat (refine hq_step (fun K hK => ?_); go_simp; first | (refine hK _ ?_; clear hK K) | (apply Exists.intro; refine ⟨fun _ => ?_, hK _ ?_⟩; (go_at_call 36; with_reducible exact calls_gx (C1.out _ _)); clear hK K))); refine hq_nil ?_; intro _ hw'; obtain ⟨⟨nq, osq⟩, hw''⟩ := hw'; subst hw'')
                  clear b0 b1 b2 b3 f0 f1 f2 k0 k1 k2 C1
                  have hb := below_gx w17 nq osq
                  generalize gx w17 nq osq = w18 at *
                  replace BXs := Lib.hid (Blk.below BXs.out hb BXs.out.lt)
                  replace BXt := Lib.hid (Blk.below BXt.out hb BXt.out.lt)
                  replace Rt := Lib.hid (Rt.out.below hb)
                  replace BB := Lib.hid (below_next BB.out (by have := BB.out.size; omega) hb)
                  replace BXe := Lib.hid (Blk.below BXe.out hb BXe.out.lt)
                  replace FY := Lib.hid (FY.out.below hb)
                  clear hb
                  go_wp2_with fail
                  go_roundg (sn2 - (i + 1))
                  case measure => omega
                  case rel => exact ⟨i + 1, by omega, Nat.le_refl _, by go_num, BB, BXs, BXt, Rt⟩
              · have hin : i = sn2 := by omega
                obtain ⟨z0, z1, z2, z3, _⟩ := blk4 BXt.out
                have hlz := BXt.out.lt
                go_wp2_with fail
                clear x0 x1 x2 x3 hlx
                skip
                refine (right_st ⟨se, sA, sn, sc, sl, sA1, sn1, sc1, sv, A9, sn2 - 1, c9, cut su j⟩ LNt.out FWt.out OKs.out.pa PUt.out _ Rt.out true ⟨fun _ => RRt.out, fun _ => rfl⟩).mono ?_
                rintro e w14 ⟨rfl, hb⟩
                clear z0 z1 z2 z3 hlz
                replace BXs := Lib.hid (Blk.below BXs.out hb BXs.out.lt)
                replace BXt := Lib.hid (Blk.below BXt.out hb BXt.out.lt)
                replace Rt := Lib.hid (Rt.out.below hb)
                replace BB := Lib.hid (below_next BB.out (by have := BB.out.size; omega) hb)
                clear hb
                obtain ⟨x0, x1, x2, x3, _⟩ := blk4 BXs.out
                have hlx := BXs.out.lt
                obtain ⟨z0, z1, z2, z3, _⟩ := blk4 BXt.out
                have hlz := BXt.out.lt
                go_wp2_with fail
                refine (same_st ⟨se, sA, sn, sc, sl, sA1, sn1, sc1, sv, some ⟨g, off, none⟩, sn2, sc2, su⟩ ⟨se, sA, sn, sc, sl, sA1, sn1, sc1, sv, A9, sn2 - 1, c9, cut su j⟩ LNs.out LNt.out OKs.out.few FWt.out _ (R0.out.below BB.out) Rt.out false (decide_eq_false NSt.out)).mono ?_
                rintro e w15 ⟨rfl, hb⟩
                clear x0 x1 x2 x3 hlx z0 z1 z2 z3 hlz
                replace BXs := Lib.hid (Blk.below BXs.out hb BXs.out.lt)
                replace BXt := Lib.hid (Blk.below BXt.out hb BXt.out.lt)
                replace Rt := Lib.hid (Rt.out.below hb)
                replace BB := Lib.hid (below_next BB.out (by have := BB.out.size; omega) hb)
                clear hb
                go_wp2_with fail
                go_ret
                exact ⟨rfl, BB.out⟩
          · skip
            go_simp
            have BXe := Lib.hid (Blk.new w10 58 #[.int .i64 0, .int .i64 0, .slice none 0 0])
            have BP := Lib.hid (gr1 w10 (.cells #[.int .i64 0, .int .i64 0, .slice none 0 0] 58)).below
            have hpe1 := BXs.out.lt
            have hpe2 := BXt.out.lt
            generalize w10.alloc (.cells #[.int .i64 0, .int .i64 0, .slice none 0 0] 58) = w11 at *
            generalize hpe : w10.heap.size = pe at *
            refine hKb.out _ _ ⟨Blk.below BXs.out BP.out hpe1, Blk.below BXt.out BP.out hpe2, ((below_at BB.out hpe BP.out).cell (p := ⟨g, off + j * 3, none⟩) hg).trans c0w⟩ ?_
            clear hKb
            refine wpAnyH_one (i := 8) (by kernel_rfl) rfl (by rfl) (fun K hK => ?_)
            go_simp
            with_reducible refine (find_at A9 (cut su j) (sn2 - 1) c9 xi LNt.out.n2 FWt.out.n2 FWt.out.su w11 (Rt.out.below (by rw [hpe]; exact BP.out)).su none FND.out).mono ?_
            rintro e w12 ⟨⟨yi, yr, yA, yn, yc, yf⟩, rfl, hye, hfl, hb⟩
            clear hye hfl
            replace BP := Lib.hid (below_next BP.out (by have := BP.out.size; omega) hb)
            replace BXe := Lib.hid (Blk.below BXe.out hb BXe.out.lt)
            clear hb
            go_wp2_with fail
            refine hK.out _ _ ⟨Blk.below BXs.out BP.out hpe1, Blk.below BXt.out BP.out hpe2, ((below_at BB.out hpe BP.out).cell (p := ⟨g, off + j * 3, none⟩) hg).trans c0w⟩ ?_
            clear hK
            refine wpAnyH_yes (i := 9) (d := 49) (v := ?_) rfl rfl (by kernel_rfl) (by kernel_rfl) (by kernel_rfl) (fun _ _ _ h => h) (by rfl) ?_ ⟨Blk.below BXs.out BP.out hpe1, Blk.below BXt.out BP.out hpe2, ((below_at BB.out hpe BP.out).cell (p := ⟨g, off + j * 3, none⟩) hg).trans c0w⟩ ?_
            rotate_left
            · intro w' hSw; skip; go_simp <;> with_reducible rfl
            simp only [Act.put, List.setIfInBounds_toArray, List.set_cons_zero, List.set_cons_succ]
            refine wpAnyH_yes (i := 10) (d := 59) (v := ?_) rfl rfl (by kernel_rfl) (by kernel_rfl) (by kernel_rfl) (fun _ _ _ h => h) (by rfl) ?_ ⟨Blk.below BXs.out BP.out hpe1, Blk.below BXt.out BP.out hpe2, ((below_at BB.out hpe BP.out).cell (p := ⟨g, off + j * 3, none⟩) hg).trans c0w⟩ ?_
            rotate_left
            · intro w' hSw; skip; go_simp <;> with_reducible rfl
            simp only [Act.put, List.setIfInBounds_toArray, List.set_cons_zero, List.set_cons_succ]
            refine wpAnyH_yes (i := 11) (d := 60) (v := ?_) rfl rfl (by kernel_rfl) (by kernel_rfl) (by kernel_rfl) (fun _ _ _ h => h) (by rfl) ?_ ⟨Blk.below BXs.out BP.out hpe1, Blk.below BXt.out BP.out hpe2, ((below_at BB.out hpe BP.out).cell (p := ⟨g, off + j * 3, none⟩) hg).trans c0w⟩ ?_
            rotate_left
            · intro w' hSw; skip; go_simp <;> with_reducible rfl
            simp only [Act.put, List.setIfInBounds_toArray, List.set_cons_zero, List.set_cons_succ]
            refine wpAnyH_one (i := 13) (by kernel_rfl) rfl (by rfl) (fun K hK => ?_)
            obtain ⟨y0, y1, y2, q0, q1, q2⟩ := blk3 BXe.out
            have hly := BXe.out.lt
            go_simp
            replace BP : Hid (Below pe _ (((w12.setCell ⟨pe, 0, none⟩ (.int .i64 yi)).setCell ⟨pe, 1, none⟩ (.int .i64 yr)).setCell ⟨pe, 2, none⟩ (.slice yA yn yc))) := below_put3 BP.out (Nat.le_refl pe)  _ _ _
            replace BXe : Hid (Blk (((w12.setCell ⟨pe, 0, none⟩ (.int .i64 yi)).setCell ⟨pe, 1, none⟩ (.int .i64 yr)).setCell ⟨pe, 2, none⟩ (.slice yA yn yc)) pe 58 #[.int .i64 yi, .int .i64 yr, .slice yA yn yc]) := Blk.put3 BXe.out  _ _ _
            refine hK.out _ _ ⟨Blk.below BXs.out BP.out hpe1, Blk.below BXt.out BP.out hpe2, ((below_at BB.out hpe BP.out).cell (p := ⟨g, off + j * 3, none⟩) hg).trans c0w⟩ ?_
            clear hK y0 y1 y2 q0 q1 q2 hly
            refine wpAnyH_yes (i := 14) (d := 9) (v := ?_) rfl rfl (by kernel_rfl) (by kernel_rfl) (by kernel_rfl) (fun _ _ _ h => h) (by rfl) ?_ ⟨Blk.below BXs.out BP.out hpe1, Blk.below BXt.out BP.out hpe2, ((below_at BB.out hpe BP.out).cell (p := ⟨g, off + j * 3, none⟩) hg).trans c0w⟩ ?_
            rotate_left
            · intro w' hSw; skip; go_simp <;> with_reducible rfl
            simp only [Act.put, List.setIfInBounds_toArray, List.set_cons_zero, List.set_cons_succ]
            refine wpAnyH_done (by kernel_rfl) ?_ _
            have hb : Below w10.heap.size w10 (((w12.setCell ⟨pe, 0, none⟩ (.int .i64 yi)).setCell ⟨pe, 1, none⟩ (.int .i64 yr)).setCell ⟨pe, 2, none⟩ (.slice yA yn yc)) := by rw [hpe]; exact BP.out
            generalize (((w12.setCell ⟨pe, 0, none⟩ (.int .i64 yi)).setCell ⟨pe, 1, none⟩ (.int .i64 yr)).setCell ⟨pe, 2, none⟩ (.slice yA yn yc)) = w13 at *
            clear BP
            replace BXs := Lib.hid (Blk.below BXs.out hb BXs.out.lt)
            replace BXt := Lib.hid (Blk.below BXt.out hb BXt.out.lt)
            replace Rt := Lib.hid (Rt.out.below hb)
            replace BB := Lib.hid (below_next BB.out (by have := BB.out.size; omega) hb)
            clear hb
            clear hpe hpe1 hpe2
            clear BXe
            go_wp2_with fail
            go_loopg [10] sn2 (fun gg s10 wr => ∃ i : Nat, i ≤ sn2 ∧ sn2 - i ≤ gg ∧ s10 = .int .i64 (i : Int) ∧ Hid (Below w.heap.size w wr) ∧ Hid (Blk wr w.heap.size 52 #[.int .i64 se, .slice sA sn sc, .slice sA1 sn1 sc1, .slice (some ⟨g, off, none⟩) sn2 sc2]) ∧ Hid (Blk wr p7 52 #[.int .i64 se, .slice sA sn sc, .slice sA1 sn1 sc1, .slice A9 (sn2 - 1) c9]) ∧ Hid (Sx.Rd wr ⟨se, sA, sn, sc, sl, sA1, sn1, sc1, sv, A9, sn2 - 1, c9, cut su j⟩))
            case atStart => exact ⟨0, Nat.zero_le _, by omega, rfl, BB, BXs, BXt, Rt⟩
            case round =>
              clear BB BXs BXt Rt
              obtain ⟨i, hi, hgg, rfl, BB, BXs, BXt, Rt⟩ := hrel
              obtain ⟨x0, x1, x2, x3, _⟩ := blk4 BXs.out
              have hlx := BXs.out.lt
              by_cases hlt : i < sn2
              · have hil : i < su.length := by rw [hn2]; exact hlt
                obtain ⟨g1, off1, hA3, hg1, e0, e1, e2, hfi⟩ := RdEn.at3 R0.out.su hil
                dsimp only at hA3 e0 e1 e2
                injection hA3 with hA3
                injection hA3 with hA3 hA4 _
                subst hA3; subst hA4
                have w6' : (i : Int) < (sn2 : Int) := by omega
                have hfs := OKs.out.few.su _ (List.getElem_mem hil)
                obtain ⟨z, hz⟩ : ∃ z, su[i] = z := ⟨_, rfl⟩
                have HZ := Lib.hid hz
                rw [hz] at e0 e1 e2 hfi hfs
                clear hz
                obtain ⟨zi, zr, zA, zn, zc, zf⟩ := z
                dsimp only at e0 e1 e2 hfs
                have HFI := Lib.hid hfi
                clear hfi
                have FN2 : Hid (findE (su.map Ex.en) zi = some ⟨zi, zr, zf⟩) := by
                  have h1 : (⟨zi, zr, zf⟩ : En) ∈ su.map Ex.en := List.mem_map.2 ⟨_, List.getElem_mem hil, by rw [HZ.out]⟩
                  exact findE_self RR.out.su.2.1 h1
                go_wp2_with fail
                clear x0 x1 x2 x3 hlx
                have e0' := (BB.out.cell (p := ⟨g, off + i * 3, none⟩) hg).trans e0
                have hS0 : Blk wr.drew w.heap.size 52 #[.int .i64 se, .slice sA sn sc, .slice sA1 sn1 sc1, .slice (some ⟨g, off, none⟩) sn2 sc2] ∧ wr.drew.cell? ⟨g, off + i * 3, none⟩ = some (.int .i64 zi) := ⟨BXs.out, e0'⟩
                refine wp_region_held_drew (S := fun w' => Blk w' w.heap.size 52 #[.int .i64 se, .slice sA sn sc, .slice sA1 sn1 sc1, .slice (some ⟨g, off, none⟩) sn2 sc2] ∧ w'.cell? ⟨g, off + i * 3, none⟩ = some (.int .i64 zi)) (by kernel_rfl) hS0 (fun _ => ?_)
                refine wpAnyH_yes (i := 0) (d := 69) (v := ?_) rfl rfl (by kernel_rfl) (by kernel_rfl) (by kernel_rfl) (fun _ _ _ h => h) (by rfl) ?_ hS0 ?_
                rotate_left
                · intro w' hSw; obtain ⟨r0, r1, r2, r3, _⟩ := blk4 hSw.1; have r4 := hSw.2; go_simp <;> with_reducible rfl
                simp only [Act.put, List.setIfInBounds_toArray, List.set_cons_zero, List.set_cons_succ]
                refine wpAnyH_yes (i := 1) (d := 70) (v := ?_) rfl rfl (by kernel_rfl) (by kernel_rfl) (by kernel_rfl) (fun _ _ _ h => h) (by rfl) ?_ hS0 ?_
                rotate_left
                · intro w' hSw; obtain ⟨r0, r1, r2, r3, _⟩ := blk4 hSw.1; have r4 := hSw.2; go_simp <;> with_reducible rfl
                simp only [Act.put, List.setIfInBounds_toArray, List.set_cons_zero, List.set_cons_succ]
                refine wpAnyH_yes (i := 2) (d := 71) (v := ?_) rfl rfl (by kernel_rfl) (by kernel_rfl) (by kernel_rfl) (fun _ _ _ h => h) (by rfl) ?_ hS0 ?_
                rotate_left
                · intro w' hSw; obtain ⟨r0, r1, r2, r3, _⟩ := blk4 hSw.1; have r4 := hSw.2; go_simp <;> with_reducible rfl
                simp only [Act.put, List.setIfInBounds_toArray, List.set_cons_zero, List.set_cons_succ]
                refine wpAnyH_yes (i := 3) (d := 72) (v := ?_) rfl rfl (by kernel_rfl) (by kernel_rfl) (by kernel_rfl) (fun _ _ _ h => h) (by rfl) ?_ hS0 ?_
                rotate_left
                · intro w' hSw; obtain ⟨r0, r1, r2, r3, _⟩ := blk4 hSw.1; have r4 := hSw.2; go_simp <;> with_reducible rfl
                simp only [Act.put, List.setIfInBounds_toArray, List.set_cons_zero, List.set_cons_succ]
                refine wpAnyH_yes (i := 4) (d := 73) (v := ?_) rfl rfl (by kernel_rfl) (by kernel_rfl) (by kernel_rfl) (fun _ _ _ h => h) (by rfl) ?_ hS0 ?_
                rotate_left
                · intro w' hSw; obtain ⟨r0, r1, r2, r3, _⟩ := blk4 hSw.1; have r4 := hSw.2; go_simp <;> with_reducible rfl
                simp only [Act.put, List.setIfInBounds_toArray, List.set_cons_zero, List.set_cons_succ]
                refine wpAnyH_yes (i := 5) (d := 74) (v := ?_) rfl rfl (by kernel_rfl) (by kernel_rfl) (by kernel_rfl) (fun _ _ _ h => h) (by rfl) ?_ hS0 ?_
                rotate_left
                · intro w' hSw; obtain ⟨r0, r1, r2, r3, _⟩ := blk4 hSw.1; have r4 := hSw.2; go_simp <;> with_reducible rfl
                simp only [Act.put, List.setIfInBounds_toArray, List.set_cons_zero, List.set_cons_succ]
                refine wpAnyH_yes (i := 6) (d := 75) (v := ?_) rfl rfl (by kernel_rfl) (by kernel_rfl) (by kernel_rfl) (fun _ _ _ h => h) (by rfl) ?_ hS0 ?_
                rotate_left
                · intro w' hSw; obtain ⟨r0, r1, r2, r3, _⟩ := blk4 hSw.1; have r4 := hSw.2; go_simp <;> with_reducible rfl
                simp only [Act.put, List.setIfInBounds_toArray, List.set_cons_zero, List.set_cons_succ]
                refine wpAnyH_yes (i := 7) (d := 76) (v := ?_) rfl rfl (by kernel_rfl) (by kernel_rfl) (by kernel_rfl) (fun _ _ _ h => h) (by rfl) ?_ hS0 ?_
                rotate_left
                · intro w' hSw; obtain ⟨r0, r1, r2, r3, _⟩ := blk4 hSw.1; have r4 := hSw.2; go_simp <;> with_reducible rfl
                simp only [Act.put, List.setIfInBounds_toArray, List.set_cons_zero, List.set_cons_succ]
                clear e0'
                replace BXs := Lib.hid (Blk.below BXs.out (show Below wr.heap.size wr wr.drew from (Below.refl _ _).drew) BXs.out.lt)
                replace BXt := Lib.hid (Blk.below BXt.out (show Below wr.heap.size wr wr.drew from (Below.refl _ _).drew) BXt.out.lt)
                replace Rt := Lib.hid (Rt.out.below (show Below wr.heap.size wr wr.drew from (Below.refl _ _).drew))
                replace BB := Lib.hid (BB.out.drew)
                generalize wr.drew = w14 at *
                refine wpAnyH_pr (i := 8) (j := 12) (by kernel_rfl) rfl rfl (by rfl) (by rfl) (fun Ka hKa => ?_) (fun Kb hKb => ?_)
                · skip
                  go_simp
                  with_reducible refine (find_at _ su sn2 sc2 zi hn2 (by omega) OKs.out.few.su w14 (R0.out.below BB.out).su (some ⟨zi, zr, zf⟩) FN2.out).mono ?_
                  rintro e w15 ⟨⟨yi, yr, yA, yn, yc, yf⟩, rfl, hye, hfl, hb⟩
                  have HYE := Lib.hid hye
                  have FY := Lib.hid hfl.rd
                  clear hye hfl
                  replace BXs := Lib.hid (Blk.below BXs.out hb BXs.out.lt)
                  replace BXt := Lib.hid (Blk.below BXt.out hb BXt.out.lt)
                  replace Rt := Lib.hid (Rt.out.below hb)
                  replace BB := Lib.hid (below_next BB.out (by have := BB.out.size; omega) hb)
                  clear hb
                  go_wp2_with fail
                  refine hKa.out _ _ ⟨BXs.out, (BB.out.cell (p := ⟨g, off + i * 3, none⟩) hg).trans e0⟩ ?_
                  clear hKa
                  refine wpAnyH_yes (i := 9) (d := 68) (v := ?_) rfl rfl (by kernel_rfl) (by kernel_rfl) (by kernel_rfl) (fun _ _ _ h => h) (by rfl) ?_ ⟨BXs.out, (BB.out.cell (p := ⟨g, off + i * 3, none⟩) hg).trans e0⟩ ?_
                  rotate_left
                  · intro w' hSw; skip; go_simp <;> with_reducible rfl
                  simp only [Act.put, List.setIfInBounds_toArray, List.set_cons_zero, List.set_cons_succ]
                  refine wpAnyH_yes (i := 10) (d := 78) (v := ?_) rfl rfl (by kernel_rfl) (by kernel_rfl) (by kernel_rfl) (fun _ _ _ h => h) (by rfl) ?_ ⟨BXs.out, (BB.out.cell (p := ⟨g, off + i * 3, none⟩) hg).trans e0⟩ ?_
                  rotate_left
                  · intro w' hSw; skip; go_simp <;> with_reducible rfl
                  simp only [Act.put, List.setIfInBounds_toArray, List.set_cons_zero, List.set_cons_succ]
                  refine wpAnyH_yes (i := 11) (d := 79) (v := ?_) rfl rfl (by kernel_rfl) (by kernel_rfl) (by kernel_rfl) (fun _ _ _ h => h) (by rfl) ?_ ⟨BXs.out, (BB.out.cell (p := ⟨g, off + i * 3, none⟩) hg).trans e0⟩ ?_
                  rotate_left
                  · intro w' hSw; skip; go_simp <;> with_reducible rfl
                  simp only [Act.put, List.setIfInBounds_toArray, List.set_cons_zero, List.set_cons_succ]
                  refine wpAnyH_one (i := 12) (by kernel_rfl) rfl (by rfl) (fun K hK => ?_)
                  go_simp
                  have BXe := Lib.hid (Blk.new w15 58 #[.int .i64 0, .int .i64 0, .slice none 0 0])
                  have BP := Lib.hid (gr1 w15 (.cells #[.int .i64 0, .int .i64 0, .slice none 0 0] 58)).below
                  have hpe1 := BXs.out.lt
                  have hpe2 := BXt.out.lt
                  generalize w15.alloc (.cells #[.int .i64 0, .int .i64 0, .slice none 0 0] 58) = w16 at *
                  generalize hpe : w15.heap.size = pe at *
                  refine hK.out _ _ ⟨Blk.below BXs.out BP.out hpe1, ((below_at BB.out hpe BP.out).cell (p := ⟨g, off + i * 3, none⟩) hg).trans e0⟩ ?_
                  clear hK
                  refine wpAnyH_one (i := 13) (by kernel_rfl) rfl (by rfl) (fun K hK => ?_)
                  obtain ⟨y0, y1, y2, q0, q1, q2⟩ := blk3 BXe.out
                  have hly := BXe.out.lt
                  go_simp
                  replace BP : Hid (Below pe _ (((w16.setCell ⟨pe, 0, none⟩ (.int .i64 yi)).setCell ⟨pe, 1, none⟩ (.int .i64 yr)).setCell ⟨pe, 2, none⟩ (.slice yA yn yc))) := below_put3 BP.out (Nat.le_refl pe)  _ _ _
                  replace BXe : Hid (Blk (((w16.setCell ⟨pe, 0, none⟩ (.int .i64 yi)).setCell ⟨pe, 1, none⟩ (.int .i64 yr)).setCell ⟨pe, 2, none⟩ (.slice yA yn yc)) pe 58 #[.int .i64 yi, .int .i64 yr, .slice yA yn yc]) := Blk.put3 BXe.out  _ _ _
                  refine hK.out _ _ ⟨Blk.below BXs.out BP.out hpe1, ((below_at BB.out hpe BP.out).cell (p := ⟨g, off + i * 3, none⟩) hg).trans e0⟩ ?_
                  clear hK y0 y1 y2 q0 q1 q2 hly
                  refine wpAnyH_yes (i := 14) (d := 12) (v := ?_) rfl rfl (by kernel_rfl) (by kernel_rfl) (by kernel_rfl) (fun _ _ _ h => h) (by rfl) ?_ ⟨Blk.below BXs.out BP.out hpe1, ((below_at BB.out hpe BP.out).cell (p := ⟨g, off + i * 3, none⟩) hg).trans e0⟩ ?_
                  rotate_left
                  · intro w' hSw; skip; go_simp <;> with_reducible rfl
                  simp only [Act.put, List.setIfInBounds_toArray, List.set_cons_zero, List.set_cons_succ]
                  refine wpAnyH_done (by kernel_rfl) ?_ _
                  have hb : Below w15.heap.size w15 (((w16.setCell ⟨pe, 0, none⟩ (.int .i64 yi)).setCell ⟨pe, 1, none⟩ (.int .i64 yr)).setCell ⟨pe, 2, none⟩ (.slice yA yn yc)) := by rw [hpe]; exact BP.out
                  generalize (((w16.setCell ⟨pe, 0, none⟩ (.int .i64 yi)).setCell ⟨pe, 1, none⟩ (.int .i64 yr)).setCell ⟨pe, 2, none⟩ (.slice yA yn yc)) = w17 at *
                  clear BP
                  replace BXs := Lib.hid (Blk.below BXs.out hb BXs.out.lt)
                  replace BXt := Lib.hid (Blk.below BXt.out hb BXt.out.lt)
                  replace Rt := Lib.hid (Rt.out.below hb)
                  replace BB := Lib.hid (below_next BB.out (by have := BB.out.size; omega) hb)
                  replace FY := Lib.hid (FY.out.below hb)
                  clear hb
                  clear hpe hpe1 hpe2
                  obtain ⟨b0, b1, b2, b3⟩ := gx4 BXs.out
                  obtain ⟨f0, f1, f2⟩ := gx3 BXe.out
                  have k0 := gx_cell ((BB.out.cell (p := ⟨g, off + i * 3, none⟩) hg).trans e0)
                  have k1 := gx_cell ((BB.out.cell (p := ⟨g, off + i * 3 + 1, none⟩) hg).trans e1)
                  have k2 := gx_cell ((BB.out.cell (p := ⟨g, off + i * 3 + 2, none⟩) hg).trans e2)
                  injection HYE.out with v1 v2 v3
                  subst v1; subst v2; subst v3
                  have C1 := Lib.hid (fun n os => one_at ⟨yi, yr, yA, yn, yc, yf⟩ ⟨yi, yr, zA, zn, zc, yf⟩ FY.out.1 (by have h1 := FY.out.1; have h2 := HFI.out.1; dsimp only at h1 h2 ⊢; omega) HFI.out.1 hfs (gx w17 n os) (FY.out.below (below_gx w17 n os)).2.2 ((HFI.out.below BB.out).below (below_gx w17 n os)).2.2 true (decide_eq_true rfl))
                  go_wp2_with fail
                  (refine qb_region mixedT (by kernel_rfl) ?_; (repeat (refine hq_step (fun K hK => ?_); go_simp; first | (refine hK _ ?_; clear hK K) | (apply Exists.intro; refine ⟨fun _ => ?_, hK _ ?_⟩; (go_at_call 36; with_reducible exact calls_gx (C1.out _ _)); clear hK K))); refine hq_nil ?_; intro _ hw'; obtain ⟨⟨nq, osq⟩, hw''⟩ := hw'; subst hw'')
                  clear b0 b1 b2 b3 f0 f1 f2 k0 k1 k2 C1
                  have hb := below_gx w17 nq osq
                  generalize gx w17 nq osq = w18 at *
                  replace BXs := Lib.hid (Blk.below BXs.out hb BXs.out.lt)
                  replace BXt := Lib.hid (Blk.below BXt.out hb BXt.out.lt)
                  replace Rt := Lib.hid (Rt.out.below hb)
                  replace BB := Lib.hid (below_next BB.out (by have := BB.out.size; omega) hb)
                  replace BXe := Lib.hid (Blk.below BXe.out hb BXe.out.lt)
                  replace FY := Lib.hid (FY.out.below hb)
                  clear hb
                  go_wp2_with fail
                  go_roundg (sn2 - (i + 1))
                  case measure => omega
                  case rel => exact ⟨i + 1, by omega, Nat.le_refl _, by go_num, BB, BXs, BXt, Rt⟩
                · skip
                  go_simp
                  have BXe := Lib.hid (Blk.new w14 58 #[.int .i64 0, .int .i64 0, .slice none 0 0])
                  have BP := Lib.hid (gr1 w14 (.cells #[.int .i64 0, .int .i64 0, .slice none 0 0] 58)).below
                  have hpe1 := BXs.out.lt
                  have hpe2 := BXt.out.lt
                  generalize w14.alloc (.cells #[.int .i64 0, .int .i64 0, .slice none 0 0] 58) = w15 at *
                  generalize hpe : w14.heap.size = pe at *
                  refine hKb.out _ _ ⟨Blk.below BXs.out BP.out hpe1, ((below_at BB.out hpe BP.out).cell (p := ⟨g, off + i * 3, none⟩) hg).trans e0⟩ ?_
                  clear hKb
                  refine wpAnyH_one (i := 8) (by kernel_rfl) rfl (by rfl) (fun K hK => ?_)
                  go_simp
                  with_reducible refine (find_at _ su sn2 sc2 zi hn2 (by omega) OKs.out.few.su w15 (R0.out.below (below_at BB.out hpe BP.out)).su (some ⟨zi, zr, zf⟩) FN2.out).mono ?_
                  rintro e w16 ⟨⟨yi, yr, yA, yn, yc, yf⟩, rfl, hye, hfl, hb⟩
                  have HYE := Lib.hid hye
                  have FYO := Lib.hid (hfl.less (show pe + 1 ≤ _ from BXe.out.lt))
                  clear hye hfl
                  replace BP := Lib.hid (below_next BP.out (by have := BP.out.size; omega) hb)
                  replace BXe := Lib.hid (Blk.below BXe.out hb BXe.out.lt)
                  clear hb
                  go_wp2_with fail
                  refine hK.out _ _ ⟨Blk.below BXs.out BP.out hpe1, ((below_at BB.out hpe BP.out).cell (p := ⟨g, off + i * 3, none⟩) hg).trans e0⟩ ?_
                  clear hK
                  refine wpAnyH_yes (i := 9) (d := 68) (v := ?_) rfl rfl (by kernel_rfl) (by kernel_rfl) (by kernel_rfl) (fun _ _ _ h => h) (by rfl) ?_ ⟨Blk.below BXs.out BP.out hpe1, ((below_at BB.out hpe BP.out).cell (p := ⟨g, off + i * 3, none⟩) hg).trans e0⟩ ?_
                  rotate_left
                  · intro w' hSw; skip; go_simp <;> with_reducible rfl
                  simp only [Act.put, List.setIfInBounds_toArray, List.set_cons_zero, List.set_cons_succ]
                  refine wpAnyH_yes (i := 10) (d := 78) (v := ?_) rfl rfl (by kernel_rfl) (by kernel_rfl) (by kernel_rfl) (fun _ _ _ h => h) (by rfl) ?_ ⟨Blk.below BXs.out BP.out hpe1, ((below_at BB.out hpe BP.out).cell (p := ⟨g, off + i * 3, none⟩) hg).trans e0⟩ ?_
                  rotate_left
                  · intro w' hSw; skip; go_simp <;> with_reducible rfl
                  simp only [Act.put, List.setIfInBounds_toArray, List.set_cons_zero, List.set_cons_succ]
                  refine wpAnyH_yes (i := 11) (d := 79) (v := ?_) rfl rfl (by kernel_rfl) (by kernel_rfl) (by kernel_rfl) (fun _ _ _ h => h) (by rfl) ?_ ⟨Blk.below BXs.out BP.out hpe1, ((below_at BB.out hpe BP.out).cell (p := ⟨g, off + i * 3, none⟩) hg).trans e0⟩ ?_
                  rotate_left
                  · intro w' hSw; skip; go_simp <;> with_reducible rfl
                  simp only [Act.put, List.setIfInBounds_toArray, List.set_cons_zero, List.set_cons_succ]
                  refine wpAnyH_one (i := 13) (by kernel_rfl) rfl (by rfl) (fun K hK => ?_)
                  obtain ⟨y0, y1, y2, q0, q1, q2⟩ := blk3 BXe.out
                  have hly := BXe.out.lt
                  go_simp
                  replace BP : Hid (Below pe _ (((w16.setCell ⟨pe, 0, none⟩ (.int .i64 yi)).setCell ⟨pe, 1, none⟩ (.int .i64 yr)).setCell ⟨pe, 2, none⟩ (.slice yA yn yc))) := below_put3 BP.out (Nat.le_refl pe)  _ _ _
                  replace BXe : Hid (Blk (((w16.setCell ⟨pe, 0, none⟩ (.int .i64 yi)).setCell ⟨pe, 1, none⟩ (.int .i64 yr)).setCell ⟨pe, 2, none⟩ (.slice yA yn yc)) pe 58 #[.int .i64 yi, .int .i64 yr, .slice yA yn yc]) := Blk.put3 BXe.out  _ _ _
                  have FY : Hid (Flt (((w16.setCell ⟨pe, 0, none⟩ (.int .i64 yi)).setCell ⟨pe, 1, none⟩ (.int .i64 yr)).setCell ⟨pe, 2, none⟩ (.slice yA yn yc)) ⟨yi, yr, yA, yn, yc, yf⟩) := FltO.rd ⟨FYO.out.1, FYO.out.2.1, OwnK.put3 FYO.out.2.2 (Nat.lt_succ_self pe) _ _ _⟩
                  clear FYO
                  refine hK.out _ _ ⟨Blk.below BXs.out BP.out hpe1, ((below_at BB.out hpe BP.out).cell (p := ⟨g, off + i * 3, none⟩) hg).trans e0⟩ ?_
                  clear hK y0 y1 y2 q0 q1 q2 hly
                  refine wpAnyH_yes (i := 14) (d := 12) (v := ?_) rfl rfl (by kernel_rfl) (by kernel_rfl) (by kernel_rfl) (fun _ _ _ h => h) (by rfl) ?_ ⟨Blk.below BXs.out BP.out hpe1, ((below_at BB.out hpe BP.out).cell (p := ⟨g, off + i * 3, none⟩) hg).trans e0⟩ ?_
                  rotate_left
                  · intro w' hSw; skip; go_simp <;> with_reducible rfl
                  simp only [Act.put, List.setIfInBounds_toArray, List.set_cons_zero, List.set_cons_succ]
                  refine wpAnyH_done (by kernel_rfl) ?_ _
                  have hb : Below w14.heap.size w14 (((w16.setCell ⟨pe, 0, none⟩ (.int .i64 yi)).setCell ⟨pe, 1, none⟩ (.int .i64 yr)).setCell ⟨pe, 2, none⟩ (.slice yA yn yc)) := by rw [hpe]; exact BP.out
                  generalize (((w16.setCell ⟨pe, 0, none⟩ (.int .i64 yi)).setCell ⟨pe, 1, none⟩ (.int .i64 yr)).setCell ⟨pe, 2, none⟩ (.slice yA yn yc)) = w17 at *
                  clear BP
                  replace BXs := Lib.hid (Blk.below BXs.out hb BXs.out.lt)
                  replace BXt := Lib.hid (Blk.below BXt.out hb BXt.out.lt)
                  replace Rt := Lib.hid (Rt.out.below hb)
                  replace BB := Lib.hid (below_next BB.out (by have := BB.out.size; omega) hb)
                  clear hb
                  clear hpe hpe1 hpe2
                  obtain ⟨b0, b1, b2, b3⟩ := gx4 BXs.out
                  obtain ⟨f0, f1, f2⟩ := gx3 BXe.out
                  have k0 := gx_cell ((BB.out.cell (p := ⟨g, off + i * 3, none⟩) hg).trans e0)
                  have k1 := gx_cell ((BB.out.cell (p := ⟨g, off + i * 3 + 1, none⟩) hg).trans e1)
                  have k2 := gx_cell ((BB.out.cell (p := ⟨g, off + i * 3 + 2, none⟩) hg).trans e2)
                  injection HYE.out with v1 v2 v3
                  subst v1; subst v2; subst v3
                  have C1 := Lib.hid (fun n os => one_at ⟨yi, yr, yA, yn, yc, yf⟩ ⟨yi, yr, zA, zn, zc, yf⟩ FY.out.1 (by have h1 := FY.out.1; have h2 := HFI.out.1; dsimp only at h1 h2 ⊢; omega) HFI.out.1 hfs (gx w17 n os) (FY.out.below (below_gx w17 n os)).2.2 ((HFI.out.below BB.out).below (below_gx w17 n os)).2.2 true (decide_eq_true rfl))
                  go_wp2_with fail
                  (refine qb_region mixedT (by kernel_rfl) ?_; (repeat (refine hq_step (fun K hK => ?_); go_simp; first | (refine hK _ ?_; clear hK K) | (apply Exists.intro; refine ⟨fun _ => ?_, hK _ ?_⟩; (go_at_call 36; with_reducible exact calls_gx (C1.out _ _)); clear hK K))); refine hq_nil ?_; intro _ hw'; obtain ⟨⟨nq, osq⟩, hw''⟩ := hw'; subst hw'')
                  clear b0 b1 b2 b3 f0 f1 f2 k0 k1 k2 C1
                  have hb := below_gx w17 nq osq
                  generalize gx w17 nq osq = w18 at *
                  replace BXs := Lib.hid (Blk.below BXs.out hb BXs.out.lt)
                  replace BXt := Lib.hid (Blk.below BXt.out hb BXt.out.lt)
                  replace Rt := Lib.hid (Rt.out.below hb)
                  replace BB := Lib.hid (below_next BB.out (by have := BB.out.size; omega) hb)
                  replace BXe := Lib.hid (Blk.below BXe.out hb BXe.out.lt)
                  replace FY := Lib.hid (FY.out.below hb)
                  clear hb
                  go_wp2_with fail
                  go_roundg (sn2 - (i + 1))
                  case measure => omega
                  case rel => exact ⟨i + 1, by omega, Nat.le_refl _, by go_num, BB, BXs, BXt, Rt⟩
              · have hin : i = sn2 := by omega
                obtain ⟨z0, z1, z2, z3, _⟩ := blk4 BXt.out
                have hlz := BXt.out.lt
                go_wp2_with fail
                clear x0 x1 x2 x3 hlx
                skip
                refine (right_st ⟨se, sA, sn, sc, sl, sA1, sn1, sc1, sv, A9, sn2 - 1, c9, cut su j⟩ LNt.out FWt.out OKs.out.pa PUt.out _ Rt.out true ⟨fun _ => RRt.out, fun _ => rfl⟩).mono ?_
                rintro e w14 ⟨rfl, hb⟩
                clear z0 z1 z2 z3 hlz
                replace BXs := Lib.hid (Blk.below BXs.out hb BXs.out.lt)
                replace BXt := Lib.hid (Blk.below BXt.out hb BXt.out.lt)
                replace Rt := Lib.hid (Rt.out.below hb)
                replace BB := Lib.hid (below_next BB.out (by have := BB.out.size; omega) hb)
                clear hb
                obtain ⟨x0, x1, x2, x3, _⟩ := blk4 BXs.out
                have hlx := BXs.out.lt
                obtain ⟨z0, z1, z2, z3, _⟩ := blk4 BXt.out
                have hlz := BXt.out.lt
                go_wp2_with fail
                refine (same_st ⟨se, sA, sn, sc, sl, sA1, sn1, sc1, sv, some ⟨g, off, none⟩, sn2, sc2, su⟩ ⟨se, sA, sn, sc, sl, sA1, sn1, sc1, sv, A9, sn2 - 1, c9, cut su j⟩ LNs.out LNt.out OKs.out.few FWt.out _ (R0.out.below BB.out) Rt.out false (decide_eq_false NSt.out)).mono ?_
                rintro e w15 ⟨rfl, hb⟩
                clear x0 x1 x2 x3 hlx z0 z1 z2 z3 hlz
                replace BXs := Lib.hid (Blk.below BXs.out hb BXs.out.lt)
                replace BXt := Lib.hid (Blk.below BXt.out hb BXt.out.lt)
                replace Rt := Lib.hid (Rt.out.below hb)
                replace BB := Lib.hid (below_next BB.out (by have := BB.out.size; omega) hb)
                clear hb
                go_wp2_with fail
                go_ret
                exact ⟨rfl, BB.out⟩

/-! ### The row's step. -/
namespace tableLess
theorem own : ownKnob Tryz.prog.godebug = none := by kernel_rfl
theorem laidOut : laidOutB Tryz.prog = true := by kernel_rfl
set_option linter.unusedVariables false in
set_option maxRecDepth 100000 in
theorem lifted (os : Os) (started : os.Started) (H : Type) (enc : TypeId × Value → H) :
    ReturnsInHanded {} Tryz.checked os 6 .any (Rows.tableLessSpec.pre6 enc Tryz.prog Tryz.f6 Rows.tableLessRow.domain false) (Rows.tableLessSpec.post enc Tryz.prog Tryz.f6 false true false false) := by
  refine returnsInHanded_of_change_sized (C := Tryz.checked) own started (by kernel_rfl) Tryz.func6
    (ChangeSpec.witness6 (enc := enc) (C := Tryz.checked) false ⟨#[], #[.agg #[.int .i64 0, .slice none 0 0, .slice none 0 0, .slice none 0 0], .int .i64 0], []⟩ 8 (by kernel_rfl) (by kernel_rfl) (by kernel_rfl) (by kernel_rfl)) ?_
  intro W base args ds gs before hval0 hW hcnd hsz0 _
  have hval : ∀ (j : Nat) t v, Tryz.f6.params[j]? = some t → args[j]? = some v → Value.okWide Tryz.prog W .any base t v := hval0
  have hsz : (DataW.weightsEach Tryz.prog (Tryz.f6.params.toList ++ Rows.tableLessSpec.plain.varTypes Tryz.prog) (ds ++ gs)).all (· ≤ reachBytes) = true := hsz0
  have hW' := hW
  obtain ⟨p, q, hA0, hV, rfl, hfz, hnd⟩ := hW
  have hA : DataW.TrodAll enc Tryz.prog W 0 (fun _ => true) true Tryz.f6.params.toList args.toList ds p := hA0
  rw [Tryz.params6] at hA hval hsz
  obtain ⟨v0, vs0, d0, ds0, p0, q0, hargs, rfl, rfl, h0, r0⟩ := trodAll_cons hA
  obtain ⟨v1, vs1, d1, ds1, p1, q1, rfl, rfl, rfl, h1, r1⟩ := trodAll_cons r0
  obtain ⟨rfl, rfl, rfl⟩ := trodAll_nil r1
  obtain rfl : args = #[v0, v1] := by cases args; simp_all
  obtain ⟨rfl, rfl⟩ := trodVars_none hV
  obtain ⟨s0, rfl, ln0, rs0, we0, cp0, sz0, lb0, ab0, ub0⟩ := open_state (hval 0 52 v0 rfl rfl) h0 (fun n hn => by simpa using List.all_eq_true.1 hsz n (DataW.weights_mem_each (j := 0) rfl rfl n hn))
  have k0 := h0
  have lt0 : ∀ x ∈ p0, x.block < W.heap.size := by obtain ⟨m, hm⟩ := k0; exact DataW.trod_lt m _ _ _ hm
  obtain ⟨a1, rfl, rfl, rfl, w1⟩ := open_int Tryz.underlying3 (hval 1 3 v1 rfl rfl) h1
  clear hA0 hval0
  refine (walk_TableLess W s0 ln0 rs0 we0 cp0 sz0 lb0 ab0 ub0 a1 w1).mono fun e W' ⟨he, bel⟩ => ?_
  subst he
  exact ⟨_, rfl, _, _, _, [], _, [], hW', trodAll_mk1 (shut_bool Tryz.underlying4 _), (trodAll_cons_mk (Below.trod laidOut (by kernel_rfl) (of_decide_eq_true (by kernel_rfl)) k0 bel lt0) (trodAll_cons_mk (shut_int Tryz.underlying3 w1) trodAll_mk0)), rfl, bel.frame _, fun h => by cases h⟩
theorem over : Rows.tableLessRow.holds Tryz.pinned (OpenSpec.ofChange Rows.tableLessSpec) :=
  OpenClaim.holds_of_wide 6 Tryz.f6 rfl rfl rfl rfl rfl rfl rfl ⟨rfl, rfl, rfl, rfl, rfl⟩ rfl rfl rfl rfl rfl (by kernel_rfl) Tryz.func6 (by kernel_rfl)
    (of_decide_eq_true (by kernel_rfl)) (by unfold Func.isWrapper; first | (rw [if_pos (by decide +kernel)]; kernel_rfl) | (rw [if_neg (by decide +kernel)]; exact ⟨rfl, rfl⟩))
    (fun os started H enc _ => lifted os started H enc)
end tableLess
/-- THE STATEMENT. -/
theorem tableLess_holds : Rows.TableLessSaid := tableLess.over
#print axioms tableLess_holds
end Go.Proofs.YtoffnfooeojhnaaGreat
