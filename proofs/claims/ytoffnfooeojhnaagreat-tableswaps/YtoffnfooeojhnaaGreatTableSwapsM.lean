/-
  A right state of which two subscriptions are swapped, or one stands in the place of another one too, is not right: for every state and every two places the call of the law answers true, and all arguments read behind it as they read before. No condition.
-/
import Derived.Test.YtoffnfooeojhnaaGreatM11
namespace Go.Proofs.YtoffnfooeojhnaaGreat
open Go.RowKit Go.ChangeShapes Go.WideShapes Go.ChangeAt Go.Sort Spans Tb
set_option maxRecDepth 100000 in
set_option maxHeartbeats 8000000 in
theorem walk_TableSwaps (w : World) (s : Sx) (lns : s.Len) (rss : s.Rd w) (wes : -9223372036854775808 ≤ s.ep ∧ s.ep ≤ 9223372036854775807) (cps : s.c ≤ maxLen ∧ s.c1 ≤ maxLen ∧ s.c2 ≤ maxLen) (szs : s.n ≤ 5900000000000 ∧ s.n1 ≤ 3600000000000 ∧ s.n2 ≤ 3600000000000) (lbs : LBx s.ls) (abs : EBx s.av) (ubs : EBx s.su) (i : Int) (hwi : (Lit.int .i64 i).wf = true) (k : Int) (hwk : (Lit.int .i64 k).wf = true) :
    Calls Tryz.prog 8 #[s.v, .int .i64 i, .int .i64 k] w fun e w' => e = .returned (.bool true) ∧ Below w.heap.size w w' := by
  obtain ⟨se, sA, sn, sc, sl, sA1, sn1, sc1, sv, sA2, sn2, sc2, su⟩ := s
  have LNs := Lib.hid lns
  have LBs := Lib.hid lbs
  have ABs := Lib.hid abs
  have UBs := Lib.hid ubs
  have SZs := Lib.hid szs
  have hb0 := (gr1 w (.cells #[.int .i64 se, .slice sA sn sc, .slice sA1 sn1 sc1, .slice sA2 sn2 sc2] 52)).below
  have BXs := Lib.hid (Blk.new w 52 #[.int .i64 se, .slice sA sn sc, .slice sA1 sn1 sc1, .slice sA2 sn2 sc2])
  have R0 := Lib.hid rss
  have BB := Lib.hid hb0
  obtain ⟨qs, hqs⟩ : ∃ q, statesB ⟨se, sA, sn, sc, sl, sA1, sn1, sc1, sv, sA2, sn2, sc2, su⟩ = q := ⟨_, rfl⟩
  have Qs := Lib.hid hqs
  have hkb := bounds_of hwk
  have hib := bounds_of hwi
  clear hb0 hqs hwk hwi lns rss wes cps szs lbs abs ubs
  go_enter Tryz.func8, Tryz.ntmps8
  go_wp2_with fail
  generalize w.alloc (.cells #[.int .i64 se, .slice sA sn sc, .slice sA1 sn1 sc1, .slice sA2 sn2 sc2] 52) = w0 at *
  refine (tsmall_at w0).mono ?_
  rintro e w1 ⟨rfl, hb⟩
  replace BXs := Lib.hid (Blk.below BXs.out hb BXs.out.lt)
  replace BB := Lib.hid (below_next BB.out (by have := BB.out.size; omega) hb)
  clear hb
  obtain ⟨x0, x1, x2, x3, _⟩ := blk4 BXs.out
  have hlx := BXs.out.lt
  go_wp2_with fail
  refine (states_at ⟨se, sA, sn, sc, sl, sA1, sn1, sc1, sv, sA2, sn2, sc2, su⟩ LNs.out SZs.out LBs.out ABs.out UBs.out _ (R0.out.below BB.out) qs Qs.out).mono ?_
  rintro e w2 ⟨rfl, hb⟩
  replace BXs := Lib.hid (Blk.below BXs.out hb BXs.out.lt)
  replace BB := Lib.hid (below_next BB.out (by have := BB.out.size; omega) hb)
  clear hb
  clear x0 x1 x2 x3 hlx
  obtain ⟨x0, x1, x2, x3, _⟩ := blk4 BXs.out
  have hlx := BXs.out.lt
  cases qs with
  | false =>
    go_wp2_with fail
    go_ret
    exact ⟨rfl, BB.out⟩
  | true =>
    have OKs := Lib.hid (ok_of Qs.out LNs.out ABs.out UBs.out)
    by_cases h0 : i < 0
    · have dh0 : decide (i < 0) = true := decide_eq_true h0
      go_wp2_with fail
      go_ret
      exact ⟨rfl, BB.out⟩
    · have dh0 : decide (i < 0) = false := decide_eq_false h0
      by_cases h1 : k ≤ i
      · have dh1 : decide (k ≤ i) = true := decide_eq_true h1
        go_wp2_with fail
        go_ret
        exact ⟨rfl, BB.out⟩
      · have dh1 : decide (k ≤ i) = false := decide_eq_false h1
        by_cases h2 : (sn2 : Int) ≤ k
        · have dh2 : decide ((sn2 : Int) ≤ k) = true := decide_eq_true h2
          go_wp2_with fail
          go_ret
          exact ⟨rfl, BB.out⟩
        · have dh2 : decide ((sn2 : Int) ≤ k) = false := decide_eq_false h2
          obtain ⟨j, rfl⟩ : ∃ j : Nat, i = (j : Int) := ⟨i.toNat, by omega⟩
          obtain ⟨b, rfl⟩ : ∃ j : Nat, k = (j : Int) := ⟨k.toNat, by omega⟩
          have hjb : j < b := by omega
          have hb2 : b < sn2 := by omega
          have d1' : decide (b ≤ j) = false := decide_eq_false (by omega)
          have d2' : decide (sn2 ≤ b) = false := decide_eq_false (by omega)
          clear h0 h1 h2
          obtain ⟨qr, hqr⟩ : ∃ q : Bool, q = true ↔ Tb.Right (Sx.bk ⟨se, sA, sn, sc, sl, sA1, sn1, sc1, sv, sA2, sn2, sc2, su⟩) := by
            by_cases h : Tb.Right (Sx.bk ⟨se, sA, sn, sc, sl, sA1, sn1, sc1, sv, sA2, sn2, sc2, su⟩)
            · exact ⟨true, by simp [h]⟩
            · exact ⟨false, by simp [h]⟩
          have QR := Lib.hid hqr
          clear hqr
          go_wp2_with fail
          refine (right_st ⟨se, sA, sn, sc, sl, sA1, sn1, sc1, sv, sA2, sn2, sc2, su⟩ LNs.out OKs.out.few OKs.out.pa OKs.out.pu _ (R0.out.below BB.out) qr QR.out).mono ?_
          rintro e w3 ⟨rfl, hb⟩
          replace BXs := Lib.hid (Blk.below BXs.out hb BXs.out.lt)
          replace BB := Lib.hid (below_next BB.out (by have := BB.out.size; omega) hb)
          clear hb
          clear x0 x1 x2 x3 hlx
          cases qr with
          | false =>
            go_wp2_with fail
            go_ret
            exact ⟨rfl, BB.out⟩
          | true =>
            have RR : Hid (Tb.Right ⟨se, sl, sv.map Ex.en, su.map Ex.en⟩) := QR.out.1 (by simp)
            clear QR dh0 dh1 dh2 d1' d2'
            have hn2 : su.length = sn2 := LNs.out.n2
            have hc2 : sn2 ≤ sc2 := LNs.out.c2
            have hs81 : sn2 ≤ 80 := OKs.out.n2
            have hjl : j < su.length := by rw [hn2]; omega
            have hbl : b < su.length := by rw [hn2]; exact hb2
            have hp_BXt := BXs.out.lt
            have hXt : Blk (w3.alloc (.cells #[.int .i64 se, .slice sA sn sc, .slice sA1 sn1 sc1, .slice sA2 sn2 sc2] 52)) w3.heap.size 52 #[.int .i64 se, .slice sA sn sc, .slice sA1 sn1 sc1, .slice sA2 sn2 sc2] := Blk.new _ _ _
            have hz4 : (w3.alloc (.cells #[.int .i64 se, .slice sA sn sc, .slice sA1 sn1 sc1, .slice sA2 sn2 sc2] 52)).heap.size = w3.heap.size + 1 := by simp
            have hBa : Below w3.heap.size w3 (w3.alloc (.cells #[.int .i64 se, .slice sA sn sc, .slice sA1 sn1 sc1, .slice sA2 sn2 sc2] 52)) := (gr1 w3 _).below
            have hb1 : Below (w3.heap.size + 1) (w3.alloc (.cells #[.int .i64 se, .slice sA sn sc, .slice sA1 sn1 sc1, .slice sA2 sn2 sc2] 52)) ((w3.alloc (.cells #[.int .i64 se, .slice sA sn sc, .slice sA1 sn1 sc1, .slice sA2 sn2 sc2] 52)).alloc (.cells #[] 58)) := by rw [← hz4]; exact (gr1 _ _).below
            have hO0 : OwnK layE ((w3.alloc (.cells #[.int .i64 se, .slice sA sn sc, .slice sA1 sn1 sc1, .slice sA2 sn2 sc2] 52)).alloc (.cells #[] 58)) (w3.heap.size + 1) (.slice (some ⟨w3.heap.size + 1, 0, none⟩) 0 0) [] := by
              have := OwnK.empty (L := layE) (w3.alloc (.cells #[.int .i64 se, .slice sA sn sc, .slice sA1 sn1 sc1, .slice sA2 sn2 sc2] 52)) (w3.heap.size + 1) (by omega)
              rwa [hz4] at this
            have hBd : Below w3.heap.size w3 ((w3.alloc (.cells #[.int .i64 se, .slice sA sn sc, .slice sA1 sn1 sc1, .slice sA2 sn2 sc2] 52)).alloc (.cells #[] 58)) := hBa.trans (hb1.mono (by omega))
            have hR0 : RdK layE ((w3.alloc (.cells #[.int .i64 se, .slice sA sn sc, .slice sA1 sn1 sc1, .slice sA2 sn2 sc2] 52)).alloc (.cells #[] 58)) sA2 su := RdK.below (RdK.below R0.out.su.1 BB.out) hBd
            have hs0 : w3.heap.size + 1 ≤ ((w3.alloc (.cells #[.int .i64 se, .slice sA sn sc, .slice sA1 sn1 sc1, .slice sA2 sn2 sc2] 52)).alloc (.cells #[] 58)).heap.size := by have := hb1.size; omega
            obtain ⟨x0, x1, x2, x3, _⟩ := blk4 BXs.out
            have hlx := BXs.out.lt
            go_wp2_with (first
              | (at_builtin; refine wpList_append_k layE (by rfl) (.tmp 39) (.tmp 41) 50 underE rfl (w3.heap.size + 1) _ [] (by rfl) hO0 sA2 su sn2 sc2 (by rfl) hR0 hn2 (by rw [maxLen_num]; simp; omega) (by simp [layE]; omega) hs0 ?_; intro v1 xw o1 b1 g1 l1; rw [List.nil_append] at o1; have hBx := b1 _ hb1; obtain ⟨AOT, cOT, hv9, hcOT, _⟩ := OwnK.form o1 hn2; subst hv9; have hXt1 := Blk.below hXt hBx (Nat.lt_succ_self _); obtain ⟨y0, y1, y2, y3, q0, q1, q2, q3⟩ := blk4 hXt1; have hly := hXt1.lt; clear b1 g1 l1 hO0 hR0 hs0 hb1))
            have hBy : Below w3.heap.size w3 xw := hBa.trans (hBx.mono (by omega))
            have BXt : Hid (Blk (xw.setCell ⟨w3.heap.size, 3, none⟩ (.slice AOT sn2 cOT)) w3.heap.size 52 #[.int .i64 se, .slice sA sn sc, .slice sA1 sn1 sc1, .slice AOT sn2 cOT]) := by have := Blk.put hXt1 3 (.slice AOT sn2 cOT); show Blk _ _ _ _; simpa using this
            have OT : Hid (OwnK layE (xw.setCell ⟨w3.heap.size, 3, none⟩ (.slice AOT sn2 cOT)) (w3.heap.size + 1) (.slice AOT sn2 cOT) su) := OwnK.set_ o1 (Nat.lt_succ_self _) 3 _
            have hb : Below w3.heap.size w3 (xw.setCell ⟨w3.heap.size, 3, none⟩ (.slice AOT sn2 cOT)) := below_set hBy (Nat.le_refl _)
            clear hXt hXt1 hBa hBd hBx hBy o1 y0 y1 y2 y3 q0 q1 q2 q3 hly
            clear x0 x1 x2 x3 hlx
            replace BXs := Lib.hid (Blk.below BXs.out hb BXs.out.lt)
            replace BB := Lib.hid (below_next BB.out (by have := BB.out.size; omega) hb)
            clear hb
            generalize (xw.setCell ⟨w3.heap.size, 3, none⟩ (.slice AOT sn2 cOT)) = w4 at *
            clear hz4
            generalize hpe : w3.heap.size = p9 at *
            clear hpe
            obtain ⟨g7, hgA, _⟩ := OT.out.here (by omega)
            subst hgA
            obtain ⟨hgp, hgl, hgf⟩ := OT.out.hereAt
            obtain ⟨g, off, hA2, hg, c0, c1, c2, _⟩ := RdEn.at3 R0.out.su (k := b) (by rw [hn2]; omega)
            dsimp only at hA2 c0 c1 c2
            have c0w := (BB.out.cell (p := ⟨g, off + b * 3, none⟩) hg).trans c0
            have c1w := (BB.out.cell (p := ⟨g, off + b * 3 + 1, none⟩) hg).trans c1
            have c2w := (BB.out.cell (p := ⟨g, off + b * 3 + 2, none⟩) hg).trans c2
            have i1 : (j : Int) < (sn2 : Int) := by omega
            have i2 : (b : Int) < (sn2 : Int) := by omega
            obtain ⟨z, hz⟩ : ∃ z, su[b] = z := ⟨_, rfl⟩
            rw [hz] at c0 c1 c2 c0w c1w c2w
            have HZ := Lib.hid hz
            clear hz
            obtain ⟨_, _, e9, _, hc9⟩ := (rdk_own OT.out).at_ (k := j) (by first | omega | (simp only [List.length_set]; omega))
            injection e9 with e9
            injection e9 with e9a e9b _
            subst e9a; subst e9b
            have o0 := hc9 0 _ rfl
            have o1 := hc9 1 _ rfl
            have o2 := hc9 2 _ rfl
            have u0 := hgf (j * 3)
            have u1 := hgf (j * 3 + 1)
            have u2 := hgf (j * 3 + 2)
            clear hc9 hgf
            rw [show 0 + j * layE.k + 0 = j * 3 by show 0 + j * 3 + 0 = j * 3; omega] at o0
            rw [show 0 + j * layE.k + 1 = j * 3 + 1 by show 0 + j * 3 + 1 = j * 3 + 1; omega] at o1
            rw [show 0 + j * layE.k + 2 = j * 3 + 2 by show 0 + j * 3 + 2 = j * 3 + 2; omega] at o2
            have hS0 : Blk w4.drew w.heap.size 52 #[.int .i64 se, .slice sA sn sc, .slice sA1 sn1 sc1, .slice sA2 sn2 sc2] ∧ Blk w4.drew p9 52 #[.int .i64 se, .slice sA sn sc, .slice sA1 sn1 sc1, .slice (some ⟨g7, 0, none⟩) sn2 cOT] ∧ w4.drew.cell? ⟨g, off + b * 3, none⟩ = some (.int .i64 z.id) ∧ w4.drew.cell? ⟨g, off + b * 3 + 1, none⟩ = some (.int .i64 z.fr) ∧ w4.drew.cell? ⟨g, off + b * 3 + 2, none⟩ = some (.slice z.A z.n z.c) := ⟨BXs.out, BXt.out, c0w, c1w, c2w⟩
            refine wp_region_held_drew (S := fun w' => Blk w' w.heap.size 52 #[.int .i64 se, .slice sA sn sc, .slice sA1 sn1 sc1, .slice sA2 sn2 sc2] ∧ Blk w' p9 52 #[.int .i64 se, .slice sA sn sc, .slice sA1 sn1 sc1, .slice (some ⟨g7, 0, none⟩) sn2 cOT] ∧ w'.cell? ⟨g, off + b * 3, none⟩ = some (.int .i64 z.id) ∧ w'.cell? ⟨g, off + b * 3 + 1, none⟩ = some (.int .i64 z.fr) ∧ w'.cell? ⟨g, off + b * 3 + 2, none⟩ = some (.slice z.A z.n z.c)) (by kernel_rfl) hS0 (fun _ => ?_)
            refine wpAnyH_yes (i := 0) (d := 44) (v := ?_) rfl rfl (by kernel_rfl) (by kernel_rfl) (by kernel_rfl) (fun _ _ _ h => h) (by rfl) ?_ hS0 ?_
            rotate_left
            · intro w' hSw; subst hA2; obtain ⟨r0, r1, r2, r3, _⟩ := blk4 hSw.1; obtain ⟨m0, m1, m2, m3, _⟩ := blk4 hSw.2.1; have r4 := hSw.2.2.1; have r5 := hSw.2.2.2.1; have r6 := hSw.2.2.2.2; go_simp <;> with_reducible rfl
            simp only [Act.put, List.setIfInBounds_toArray, List.set_cons_zero, List.set_cons_succ]
            refine wpAnyH_yes (i := 1) (d := 45) (v := ?_) rfl rfl (by kernel_rfl) (by kernel_rfl) (by kernel_rfl) (fun _ _ _ h => h) (by rfl) ?_ hS0 ?_
            rotate_left
            · intro w' hSw; subst hA2; obtain ⟨r0, r1, r2, r3, _⟩ := blk4 hSw.1; obtain ⟨m0, m1, m2, m3, _⟩ := blk4 hSw.2.1; have r4 := hSw.2.2.1; have r5 := hSw.2.2.2.1; have r6 := hSw.2.2.2.2; go_simp <;> with_reducible rfl
            simp only [Act.put, List.setIfInBounds_toArray, List.set_cons_zero, List.set_cons_succ]
            refine wpAnyH_yes (i := 2) (d := 46) (v := ?_) rfl rfl (by kernel_rfl) (by kernel_rfl) (by kernel_rfl) (fun _ _ _ h => h) (by rfl) ?_ hS0 ?_
            rotate_left
            · intro w' hSw; subst hA2; obtain ⟨r0, r1, r2, r3, _⟩ := blk4 hSw.1; obtain ⟨m0, m1, m2, m3, _⟩ := blk4 hSw.2.1; have r4 := hSw.2.2.1; have r5 := hSw.2.2.2.1; have r6 := hSw.2.2.2.2; go_simp <;> with_reducible rfl
            simp only [Act.put, List.setIfInBounds_toArray, List.set_cons_zero, List.set_cons_succ]
            refine wpAnyH_yes (i := 3) (d := 47) (v := ?_) rfl rfl (by kernel_rfl) (by kernel_rfl) (by kernel_rfl) (fun _ _ _ h => h) (by rfl) ?_ hS0 ?_
            rotate_left
            · intro w' hSw; subst hA2; obtain ⟨r0, r1, r2, r3, _⟩ := blk4 hSw.1; obtain ⟨m0, m1, m2, m3, _⟩ := blk4 hSw.2.1; have r4 := hSw.2.2.1; have r5 := hSw.2.2.2.1; have r6 := hSw.2.2.2.2; go_simp <;> with_reducible rfl
            simp only [Act.put, List.setIfInBounds_toArray, List.set_cons_zero, List.set_cons_succ]
            refine wpAnyH_yes (i := 4) (d := 48) (v := ?_) rfl rfl (by kernel_rfl) (by kernel_rfl) (by kernel_rfl) (fun _ _ _ h => h) (by rfl) ?_ hS0 ?_
            rotate_left
            · intro w' hSw; subst hA2; obtain ⟨r0, r1, r2, r3, _⟩ := blk4 hSw.1; obtain ⟨m0, m1, m2, m3, _⟩ := blk4 hSw.2.1; have r4 := hSw.2.2.1; have r5 := hSw.2.2.2.1; have r6 := hSw.2.2.2.2; go_simp <;> with_reducible rfl
            simp only [Act.put, List.setIfInBounds_toArray, List.set_cons_zero, List.set_cons_succ]
            refine wpAnyH_yes (i := 5) (d := 49) (v := ?_) rfl rfl (by kernel_rfl) (by kernel_rfl) (by kernel_rfl) (fun _ _ _ h => h) (by rfl) ?_ hS0 ?_
            rotate_left
            · intro w' hSw; subst hA2; obtain ⟨r0, r1, r2, r3, _⟩ := blk4 hSw.1; obtain ⟨m0, m1, m2, m3, _⟩ := blk4 hSw.2.1; have r4 := hSw.2.2.1; have r5 := hSw.2.2.2.1; have r6 := hSw.2.2.2.2; go_simp <;> with_reducible rfl
            simp only [Act.put, List.setIfInBounds_toArray, List.set_cons_zero, List.set_cons_succ]
            refine wpAnyH_yes (i := 6) (d := 50) (v := ?_) rfl rfl (by kernel_rfl) (by kernel_rfl) (by kernel_rfl) (fun _ _ _ h => h) (by rfl) ?_ hS0 ?_
            rotate_left
            · intro w' hSw; subst hA2; obtain ⟨r0, r1, r2, r3, _⟩ := blk4 hSw.1; obtain ⟨m0, m1, m2, m3, _⟩ := blk4 hSw.2.1; have r4 := hSw.2.2.1; have r5 := hSw.2.2.2.1; have r6 := hSw.2.2.2.2; go_simp <;> with_reducible rfl
            simp only [Act.put, List.setIfInBounds_toArray, List.set_cons_zero, List.set_cons_succ]
            refine wpAnyH_yes (i := 7) (d := 51) (v := ?_) rfl rfl (by kernel_rfl) (by kernel_rfl) (by kernel_rfl) (fun _ _ _ h => h) (by rfl) ?_ hS0 ?_
            rotate_left
            · intro w' hSw; subst hA2; obtain ⟨r0, r1, r2, r3, _⟩ := blk4 hSw.1; obtain ⟨m0, m1, m2, m3, _⟩ := blk4 hSw.2.1; have r4 := hSw.2.2.1; have r5 := hSw.2.2.2.1; have r6 := hSw.2.2.2.2; go_simp <;> with_reducible rfl
            simp only [Act.put, List.setIfInBounds_toArray, List.set_cons_zero, List.set_cons_succ]
            refine wpAnyH_yes (i := 8) (d := 52) (v := ?_) rfl rfl (by kernel_rfl) (by kernel_rfl) (by kernel_rfl) (fun _ _ _ h => h) (by rfl) ?_ hS0 ?_
            rotate_left
            · intro w' hSw; subst hA2; obtain ⟨r0, r1, r2, r3, _⟩ := blk4 hSw.1; obtain ⟨m0, m1, m2, m3, _⟩ := blk4 hSw.2.1; have r4 := hSw.2.2.1; have r5 := hSw.2.2.2.1; have r6 := hSw.2.2.2.2; go_simp <;> with_reducible rfl
            simp only [Act.put, List.setIfInBounds_toArray, List.set_cons_zero, List.set_cons_succ]
            have o0' : w4.drew.cell? ⟨g7, j * 3, none⟩ = _ := o0
            have o1' : w4.drew.cell? ⟨g7, j * 3 + 1, none⟩ = _ := o1
            have o2' : w4.drew.cell? ⟨g7, j * 3 + 2, none⟩ = _ := o2
            have u0' : w4.drew.frozen? ⟨g7, j * 3, none⟩ = false := u0
            have u1' : w4.drew.frozen? ⟨g7, j * 3 + 1, none⟩ = false := u1
            have u2' : w4.drew.frozen? ⟨g7, j * 3 + 2, none⟩ = false := u2
            have hgl' : g7 < w4.drew.heap.size := hgl
            have OT' : Hid (OwnK layE w4.drew (p9 + 1) (.slice (some ⟨g7, 0, none⟩) sn2 cOT) (su)) := OT.out.below (Below.refl _ _).drew
            have BXs' := Lib.hid (Blk.below BXs.out (show Below w4.heap.size w4 w4.drew from (Below.refl _ _).drew) BXs.out.lt)
            have BB' := Lib.hid (BB.out.drew)
            have BXt' := Lib.hid (Blk.below BXt.out (show Below w4.heap.size w4 w4.drew from (Below.refl _ _).drew) BXt.out.lt)
            clear hS0 c0w c1w c2w BXs BB BXt OT o0 o1 o2 u0 u1 u2 hgl
            have BXs := BXs'
            clear BXs'
            have BB := BB'
            clear BB'
            have BXt := BXt'
            clear BXt'
            have OT := OT'
            clear OT'
            have o0 := o0'
            clear o0'
            have o1 := o1'
            clear o1'
            have o2 := o2'
            clear o2'
            have u0 := u0'
            clear u0'
            have u1 := u1'
            clear u1'
            have u2 := u2'
            clear u2'
            have hgl := hgl'
            clear hgl'
            generalize w4.drew = wd at *
            refine wpAnyH_one (i := 9) (by kernel_rfl) rfl (by rfl) (fun K hK => ?_)
            go_simp
            have OT' : Hid (OwnK layE (((wd.setCell ⟨g7, j * 3, none⟩ (.int .i64 z.id)).setCell ⟨g7, j * 3 + 1, none⟩ (.int .i64 z.fr)).setCell ⟨g7, j * 3 + 2, none⟩ (.slice z.A z.n z.c)) (p9 + 1) (.slice (some ⟨g7, 0, none⟩) sn2 cOT) ((su).set j su[b])) := by
              rw [HZ.out]
              exact OT.out.setE (by first | exact hn2 | (simp only [List.length_set]; exact hn2)) j (by omega) z
            have hne : w.heap.size ≠ g7 := by omega
            have BXs' := Lib.hid (((Blk.far BXs.out (p := ⟨g7, j * 3, none⟩) hne (.int .i64 z.id)).far (p := ⟨g7, j * 3 + 1, none⟩) hne (.int .i64 z.fr)).far (p := ⟨g7, j * 3 + 2, none⟩) hne (.slice z.A z.n z.c))
            clear hne
            have BB' : Hid (Below w.heap.size w (((wd.setCell ⟨g7, j * 3, none⟩ (.int .i64 z.id)).setCell ⟨g7, j * 3 + 1, none⟩ (.int .i64 z.fr)).setCell ⟨g7, j * 3 + 2, none⟩ (.slice z.A z.n z.c))) := below_set (below_set (below_set BB.out (by omega)) (by omega)) (by omega)
            have hne : p9 ≠ g7 := by omega
            have BXt' := Lib.hid (((Blk.far BXt.out (p := ⟨g7, j * 3, none⟩) hne (.int .i64 z.id)).far (p := ⟨g7, j * 3 + 1, none⟩) hne (.int .i64 z.fr)).far (p := ⟨g7, j * 3 + 2, none⟩) hne (.slice z.A z.n z.c))
            clear hne
            clear BXs BB BXt OT o0 o1 o2 u0 u1 u2 hgl
            have BXs := BXs'
            clear BXs'
            have BB := BB'
            clear BB'
            have BXt := BXt'
            clear BXt'
            have OT := OT'
            clear OT'
            refine hK.out _ _ ⟨BXs.out, BXt.out, (BB.out.cell (p := ⟨g, off + b * 3, none⟩) hg).trans c0, (BB.out.cell (p := ⟨g, off + b * 3 + 1, none⟩) hg).trans c1, (BB.out.cell (p := ⟨g, off + b * 3 + 2, none⟩) hg).trans c2⟩ ?_
            clear hK K c0 c1 c2 hg i1 i2 HZ hgp hA2
            refine wpAnyH_done (by kernel_rfl) ?_ _
            generalize (((wd.setCell ⟨g7, j * 3, none⟩ (.int .i64 z.id)).setCell ⟨g7, j * 3 + 1, none⟩ (.int .i64 z.fr)).setCell ⟨g7, j * 3 + 2, none⟩ (.slice z.A z.n z.c)) = w5 at *
            go_wp2_with fail
            obtain ⟨hgp, hgl, hgf⟩ := OT.out.hereAt
            obtain ⟨g, off, hA2, hg, c0, c1, c2, _⟩ := RdEn.at3 R0.out.su (k := j) (by rw [hn2]; omega)
            dsimp only at hA2 c0 c1 c2
            have c0w := (BB.out.cell (p := ⟨g, off + j * 3, none⟩) hg).trans c0
            have c1w := (BB.out.cell (p := ⟨g, off + j * 3 + 1, none⟩) hg).trans c1
            have c2w := (BB.out.cell (p := ⟨g, off + j * 3 + 2, none⟩) hg).trans c2
            have i1 : (b : Int) < (sn2 : Int) := by omega
            have i2 : (j : Int) < (sn2 : Int) := by omega
            obtain ⟨z, hz⟩ : ∃ z, su[j] = z := ⟨_, rfl⟩
            rw [hz] at c0 c1 c2 c0w c1w c2w
            have HZ := Lib.hid hz
            clear hz
            obtain ⟨_, _, e9, _, hc9⟩ := (rdk_own OT.out).at_ (k := b) (by first | omega | (simp only [List.length_set]; omega))
            injection e9 with e9
            injection e9 with e9a e9b _
            subst e9a; subst e9b
            have o0 := hc9 0 _ rfl
            have o1 := hc9 1 _ rfl
            have o2 := hc9 2 _ rfl
            have u0 := hgf (b * 3)
            have u1 := hgf (b * 3 + 1)
            have u2 := hgf (b * 3 + 2)
            clear hc9 hgf
            rw [show 0 + b * layE.k + 0 = b * 3 by show 0 + b * 3 + 0 = b * 3; omega] at o0
            rw [show 0 + b * layE.k + 1 = b * 3 + 1 by show 0 + b * 3 + 1 = b * 3 + 1; omega] at o1
            rw [show 0 + b * layE.k + 2 = b * 3 + 2 by show 0 + b * 3 + 2 = b * 3 + 2; omega] at o2
            have hS0 : Blk w5.drew w.heap.size 52 #[.int .i64 se, .slice sA sn sc, .slice sA1 sn1 sc1, .slice sA2 sn2 sc2] ∧ Blk w5.drew p9 52 #[.int .i64 se, .slice sA sn sc, .slice sA1 sn1 sc1, .slice (some ⟨g7, 0, none⟩) sn2 cOT] ∧ w5.drew.cell? ⟨g, off + j * 3, none⟩ = some (.int .i64 z.id) ∧ w5.drew.cell? ⟨g, off + j * 3 + 1, none⟩ = some (.int .i64 z.fr) ∧ w5.drew.cell? ⟨g, off + j * 3 + 2, none⟩ = some (.slice z.A z.n z.c) := ⟨BXs.out, BXt.out, c0w, c1w, c2w⟩
            refine wp_region_held_drew (S := fun w' => Blk w' w.heap.size 52 #[.int .i64 se, .slice sA sn sc, .slice sA1 sn1 sc1, .slice sA2 sn2 sc2] ∧ Blk w' p9 52 #[.int .i64 se, .slice sA sn sc, .slice sA1 sn1 sc1, .slice (some ⟨g7, 0, none⟩) sn2 cOT] ∧ w'.cell? ⟨g, off + j * 3, none⟩ = some (.int .i64 z.id) ∧ w'.cell? ⟨g, off + j * 3 + 1, none⟩ = some (.int .i64 z.fr) ∧ w'.cell? ⟨g, off + j * 3 + 2, none⟩ = some (.slice z.A z.n z.c)) (by kernel_rfl) hS0 (fun _ => ?_)
            refine wpAnyH_yes (i := 0) (d := 53) (v := ?_) rfl rfl (by kernel_rfl) (by kernel_rfl) (by kernel_rfl) (fun _ _ _ h => h) (by rfl) ?_ hS0 ?_
            rotate_left
            · intro w' hSw; subst hA2; obtain ⟨r0, r1, r2, r3, _⟩ := blk4 hSw.1; obtain ⟨m0, m1, m2, m3, _⟩ := blk4 hSw.2.1; have r4 := hSw.2.2.1; have r5 := hSw.2.2.2.1; have r6 := hSw.2.2.2.2; go_simp <;> with_reducible rfl
            simp only [Act.put, List.setIfInBounds_toArray, List.set_cons_zero, List.set_cons_succ]
            refine wpAnyH_yes (i := 1) (d := 54) (v := ?_) rfl rfl (by kernel_rfl) (by kernel_rfl) (by kernel_rfl) (fun _ _ _ h => h) (by rfl) ?_ hS0 ?_
            rotate_left
            · intro w' hSw; subst hA2; obtain ⟨r0, r1, r2, r3, _⟩ := blk4 hSw.1; obtain ⟨m0, m1, m2, m3, _⟩ := blk4 hSw.2.1; have r4 := hSw.2.2.1; have r5 := hSw.2.2.2.1; have r6 := hSw.2.2.2.2; go_simp <;> with_reducible rfl
            simp only [Act.put, List.setIfInBounds_toArray, List.set_cons_zero, List.set_cons_succ]
            refine wpAnyH_yes (i := 2) (d := 55) (v := ?_) rfl rfl (by kernel_rfl) (by kernel_rfl) (by kernel_rfl) (fun _ _ _ h => h) (by rfl) ?_ hS0 ?_
            rotate_left
            · intro w' hSw; subst hA2; obtain ⟨r0, r1, r2, r3, _⟩ := blk4 hSw.1; obtain ⟨m0, m1, m2, m3, _⟩ := blk4 hSw.2.1; have r4 := hSw.2.2.1; have r5 := hSw.2.2.2.1; have r6 := hSw.2.2.2.2; go_simp <;> with_reducible rfl
            simp only [Act.put, List.setIfInBounds_toArray, List.set_cons_zero, List.set_cons_succ]
            refine wpAnyH_yes (i := 3) (d := 56) (v := ?_) rfl rfl (by kernel_rfl) (by kernel_rfl) (by kernel_rfl) (fun _ _ _ h => h) (by rfl) ?_ hS0 ?_
            rotate_left
            · intro w' hSw; subst hA2; obtain ⟨r0, r1, r2, r3, _⟩ := blk4 hSw.1; obtain ⟨m0, m1, m2, m3, _⟩ := blk4 hSw.2.1; have r4 := hSw.2.2.1; have r5 := hSw.2.2.2.1; have r6 := hSw.2.2.2.2; go_simp <;> with_reducible rfl
            simp only [Act.put, List.setIfInBounds_toArray, List.set_cons_zero, List.set_cons_succ]
            refine wpAnyH_yes (i := 4) (d := 57) (v := ?_) rfl rfl (by kernel_rfl) (by kernel_rfl) (by kernel_rfl) (fun _ _ _ h => h) (by rfl) ?_ hS0 ?_
            rotate_left
            · intro w' hSw; subst hA2; obtain ⟨r0, r1, r2, r3, _⟩ := blk4 hSw.1; obtain ⟨m0, m1, m2, m3, _⟩ := blk4 hSw.2.1; have r4 := hSw.2.2.1; have r5 := hSw.2.2.2.1; have r6 := hSw.2.2.2.2; go_simp <;> with_reducible rfl
            simp only [Act.put, List.setIfInBounds_toArray, List.set_cons_zero, List.set_cons_succ]
            refine wpAnyH_yes (i := 5) (d := 58) (v := ?_) rfl rfl (by kernel_rfl) (by kernel_rfl) (by kernel_rfl) (fun _ _ _ h => h) (by rfl) ?_ hS0 ?_
            rotate_left
            · intro w' hSw; subst hA2; obtain ⟨r0, r1, r2, r3, _⟩ := blk4 hSw.1; obtain ⟨m0, m1, m2, m3, _⟩ := blk4 hSw.2.1; have r4 := hSw.2.2.1; have r5 := hSw.2.2.2.1; have r6 := hSw.2.2.2.2; go_simp <;> with_reducible rfl
            simp only [Act.put, List.setIfInBounds_toArray, List.set_cons_zero, List.set_cons_succ]
            refine wpAnyH_yes (i := 6) (d := 59) (v := ?_) rfl rfl (by kernel_rfl) (by kernel_rfl) (by kernel_rfl) (fun _ _ _ h => h) (by rfl) ?_ hS0 ?_
            rotate_left
            · intro w' hSw; subst hA2; obtain ⟨r0, r1, r2, r3, _⟩ := blk4 hSw.1; obtain ⟨m0, m1, m2, m3, _⟩ := blk4 hSw.2.1; have r4 := hSw.2.2.1; have r5 := hSw.2.2.2.1; have r6 := hSw.2.2.2.2; go_simp <;> with_reducible rfl
            simp only [Act.put, List.setIfInBounds_toArray, List.set_cons_zero, List.set_cons_succ]
            refine wpAnyH_yes (i := 7) (d := 60) (v := ?_) rfl rfl (by kernel_rfl) (by kernel_rfl) (by kernel_rfl) (fun _ _ _ h => h) (by rfl) ?_ hS0 ?_
            rotate_left
            · intro w' hSw; subst hA2; obtain ⟨r0, r1, r2, r3, _⟩ := blk4 hSw.1; obtain ⟨m0, m1, m2, m3, _⟩ := blk4 hSw.2.1; have r4 := hSw.2.2.1; have r5 := hSw.2.2.2.1; have r6 := hSw.2.2.2.2; go_simp <;> with_reducible rfl
            simp only [Act.put, List.setIfInBounds_toArray, List.set_cons_zero, List.set_cons_succ]
            refine wpAnyH_yes (i := 8) (d := 61) (v := ?_) rfl rfl (by kernel_rfl) (by kernel_rfl) (by kernel_rfl) (fun _ _ _ h => h) (by rfl) ?_ hS0 ?_
            rotate_left
            · intro w' hSw; subst hA2; obtain ⟨r0, r1, r2, r3, _⟩ := blk4 hSw.1; obtain ⟨m0, m1, m2, m3, _⟩ := blk4 hSw.2.1; have r4 := hSw.2.2.1; have r5 := hSw.2.2.2.1; have r6 := hSw.2.2.2.2; go_simp <;> with_reducible rfl
            simp only [Act.put, List.setIfInBounds_toArray, List.set_cons_zero, List.set_cons_succ]
            have o0' : w5.drew.cell? ⟨g7, b * 3, none⟩ = _ := o0
            have o1' : w5.drew.cell? ⟨g7, b * 3 + 1, none⟩ = _ := o1
            have o2' : w5.drew.cell? ⟨g7, b * 3 + 2, none⟩ = _ := o2
            have u0' : w5.drew.frozen? ⟨g7, b * 3, none⟩ = false := u0
            have u1' : w5.drew.frozen? ⟨g7, b * 3 + 1, none⟩ = false := u1
            have u2' : w5.drew.frozen? ⟨g7, b * 3 + 2, none⟩ = false := u2
            have hgl' : g7 < w5.drew.heap.size := hgl
            have OT' : Hid (OwnK layE w5.drew (p9 + 1) (.slice (some ⟨g7, 0, none⟩) sn2 cOT) (su.set j su[b])) := OT.out.below (Below.refl _ _).drew
            have BXs' := Lib.hid (Blk.below BXs.out (show Below w5.heap.size w5 w5.drew from (Below.refl _ _).drew) BXs.out.lt)
            have BB' := Lib.hid (BB.out.drew)
            have BXt' := Lib.hid (Blk.below BXt.out (show Below w5.heap.size w5 w5.drew from (Below.refl _ _).drew) BXt.out.lt)
            clear hS0 c0w c1w c2w BXs BB BXt OT o0 o1 o2 u0 u1 u2 hgl
            have BXs := BXs'
            clear BXs'
            have BB := BB'
            clear BB'
            have BXt := BXt'
            clear BXt'
            have OT := OT'
            clear OT'
            have o0 := o0'
            clear o0'
            have o1 := o1'
            clear o1'
            have o2 := o2'
            clear o2'
            have u0 := u0'
            clear u0'
            have u1 := u1'
            clear u1'
            have u2 := u2'
            clear u2'
            have hgl := hgl'
            clear hgl'
            generalize w5.drew = wd at *
            refine wpAnyH_one (i := 9) (by kernel_rfl) rfl (by rfl) (fun K hK => ?_)
            go_simp
            have OT' : Hid (OwnK layE (((wd.setCell ⟨g7, b * 3, none⟩ (.int .i64 z.id)).setCell ⟨g7, b * 3 + 1, none⟩ (.int .i64 z.fr)).setCell ⟨g7, b * 3 + 2, none⟩ (.slice z.A z.n z.c)) (p9 + 1) (.slice (some ⟨g7, 0, none⟩) sn2 cOT) ((su.set j su[b]).set b su[j])) := by
              rw [HZ.out]
              exact OT.out.setE (by first | exact hn2 | (simp only [List.length_set]; exact hn2)) b (by omega) z
            have hne : w.heap.size ≠ g7 := by omega
            have BXs' := Lib.hid (((Blk.far BXs.out (p := ⟨g7, b * 3, none⟩) hne (.int .i64 z.id)).far (p := ⟨g7, b * 3 + 1, none⟩) hne (.int .i64 z.fr)).far (p := ⟨g7, b * 3 + 2, none⟩) hne (.slice z.A z.n z.c))
            clear hne
            have BB' : Hid (Below w.heap.size w (((wd.setCell ⟨g7, b * 3, none⟩ (.int .i64 z.id)).setCell ⟨g7, b * 3 + 1, none⟩ (.int .i64 z.fr)).setCell ⟨g7, b * 3 + 2, none⟩ (.slice z.A z.n z.c))) := below_set (below_set (below_set BB.out (by omega)) (by omega)) (by omega)
            have hne : p9 ≠ g7 := by omega
            have BXt' := Lib.hid (((Blk.far BXt.out (p := ⟨g7, b * 3, none⟩) hne (.int .i64 z.id)).far (p := ⟨g7, b * 3 + 1, none⟩) hne (.int .i64 z.fr)).far (p := ⟨g7, b * 3 + 2, none⟩) hne (.slice z.A z.n z.c))
            clear hne
            clear BXs BB BXt OT o0 o1 o2 u0 u1 u2 hgl
            have BXs := BXs'
            clear BXs'
            have BB := BB'
            clear BB'
            have BXt := BXt'
            clear BXt'
            have OT := OT'
            clear OT'
            refine hK.out _ _ ⟨BXs.out, BXt.out, (BB.out.cell (p := ⟨g, off + j * 3, none⟩) hg).trans c0, (BB.out.cell (p := ⟨g, off + j * 3 + 1, none⟩) hg).trans c1, (BB.out.cell (p := ⟨g, off + j * 3 + 2, none⟩) hg).trans c2⟩ ?_
            clear hK K c0 c1 c2 hg i1 i2 HZ hgp hA2
            refine wpAnyH_done (by kernel_rfl) ?_ _
            generalize (((wd.setCell ⟨g7, b * 3, none⟩ (.int .i64 z.id)).setCell ⟨g7, b * 3 + 1, none⟩ (.int .i64 z.fr)).setCell ⟨g7, b * 3 + 2, none⟩ (.slice z.A z.n z.c)) = w8 at *
            have R8 : Hid (RdK layE w8 (some ⟨g7, 0, none⟩) ((su.set j su[b]).set b su[j])) := rdk_own OT.out
            have BB8 : Hid (Below w8.heap.size w8 w8) := Below.refl _ _
            have hcT : sn2 ≤ cOT := by obtain ⟨_, _, e, h, _⟩ := OwnK.form OT.out (n := sn2) (by simp only [List.length_set]; exact hn2); cases e; exact h
            clear OT
            have hp98 : p9 < w8.heap.size := BXt.out.lt
            have hp_BXu := BXs.out.lt
            have hXt : Blk (w8.alloc (.cells #[.int .i64 se, .slice sA sn sc, .slice sA1 sn1 sc1, .slice sA2 sn2 sc2] 52)) w8.heap.size 52 #[.int .i64 se, .slice sA sn sc, .slice sA1 sn1 sc1, .slice sA2 sn2 sc2] := Blk.new _ _ _
            have hz4 : (w8.alloc (.cells #[.int .i64 se, .slice sA sn sc, .slice sA1 sn1 sc1, .slice sA2 sn2 sc2] 52)).heap.size = w8.heap.size + 1 := by simp
            have hBa : Below w8.heap.size w8 (w8.alloc (.cells #[.int .i64 se, .slice sA sn sc, .slice sA1 sn1 sc1, .slice sA2 sn2 sc2] 52)) := (gr1 w8 _).below
            have hb1 : Below (w8.heap.size + 1) (w8.alloc (.cells #[.int .i64 se, .slice sA sn sc, .slice sA1 sn1 sc1, .slice sA2 sn2 sc2] 52)) ((w8.alloc (.cells #[.int .i64 se, .slice sA sn sc, .slice sA1 sn1 sc1, .slice sA2 sn2 sc2] 52)).alloc (.cells #[] 58)) := by rw [← hz4]; exact (gr1 _ _).below
            have hO0 : OwnK layE ((w8.alloc (.cells #[.int .i64 se, .slice sA sn sc, .slice sA1 sn1 sc1, .slice sA2 sn2 sc2] 52)).alloc (.cells #[] 58)) (w8.heap.size + 1) (.slice (some ⟨w8.heap.size + 1, 0, none⟩) 0 0) [] := by
              have := OwnK.empty (L := layE) (w8.alloc (.cells #[.int .i64 se, .slice sA sn sc, .slice sA1 sn1 sc1, .slice sA2 sn2 sc2] 52)) (w8.heap.size + 1) (by omega)
              rwa [hz4] at this
            have hBd : Below w8.heap.size w8 ((w8.alloc (.cells #[.int .i64 se, .slice sA sn sc, .slice sA1 sn1 sc1, .slice sA2 sn2 sc2] 52)).alloc (.cells #[] 58)) := hBa.trans (hb1.mono (by omega))
            have hR0 : RdK layE ((w8.alloc (.cells #[.int .i64 se, .slice sA sn sc, .slice sA1 sn1 sc1, .slice sA2 sn2 sc2] 52)).alloc (.cells #[] 58)) sA2 su := RdK.below (RdK.below R0.out.su.1 BB.out) hBd
            have hs0 : w8.heap.size + 1 ≤ ((w8.alloc (.cells #[.int .i64 se, .slice sA sn sc, .slice sA1 sn1 sc1, .slice sA2 sn2 sc2] 52)).alloc (.cells #[] 58)).heap.size := by have := hb1.size; omega
            obtain ⟨x0, x1, x2, x3, _⟩ := blk4 BXs.out
            have hlx := BXs.out.lt
            go_wp2_with (first
              | (at_builtin; refine wpList_append_k layE (by rfl) (.tmp 63) (.tmp 65) 50 underE rfl (w8.heap.size + 1) _ [] (by rfl) hO0 sA2 su sn2 sc2 (by rfl) hR0 hn2 (by rw [maxLen_num]; simp; omega) (by simp [layE]; omega) hs0 ?_; intro v1 xw o1 b1 g1 l1; rw [List.nil_append] at o1; have hBx := b1 _ hb1; obtain ⟨AOU, cOU, hv9, hcOU, _⟩ := OwnK.form o1 hn2; subst hv9; have hXt1 := Blk.below hXt hBx (Nat.lt_succ_self _); obtain ⟨y0, y1, y2, y3, q0, q1, q2, q3⟩ := blk4 hXt1; have hly := hXt1.lt; clear b1 g1 l1 hO0 hR0 hs0 hb1))
            have hBy : Below w8.heap.size w8 xw := hBa.trans (hBx.mono (by omega))
            have BXu : Hid (Blk (xw.setCell ⟨w8.heap.size, 3, none⟩ (.slice AOU sn2 cOU)) w8.heap.size 52 #[.int .i64 se, .slice sA sn sc, .slice sA1 sn1 sc1, .slice AOU sn2 cOU]) := by have := Blk.put hXt1 3 (.slice AOU sn2 cOU); show Blk _ _ _ _; simpa using this
            have OU : Hid (OwnK layE (xw.setCell ⟨w8.heap.size, 3, none⟩ (.slice AOU sn2 cOU)) (w8.heap.size + 1) (.slice AOU sn2 cOU) su) := OwnK.set_ o1 (Nat.lt_succ_self _) 3 _
            have hb : Below w8.heap.size w8 (xw.setCell ⟨w8.heap.size, 3, none⟩ (.slice AOU sn2 cOU)) := below_set hBy (Nat.le_refl _)
            clear hXt hXt1 hBa hBd hBx hBy o1 y0 y1 y2 y3 q0 q1 q2 q3 hly
            clear x0 x1 x2 x3 hlx
            replace BXs := Lib.hid (Blk.below BXs.out hb BXs.out.lt)
            replace BB := Lib.hid (below_next BB.out (by have := BB.out.size; omega) hb)
            replace BXt := Lib.hid (Blk.below BXt.out hb BXt.out.lt)
            replace BB8 := Lib.hid (below_next BB8.out (by have := BB8.out.size; omega) hb)
            clear hb
            generalize (xw.setCell ⟨w8.heap.size, 3, none⟩ (.slice AOU sn2 cOU)) = w9 at *
            clear hz4
            obtain ⟨g11, hgA, _⟩ := OU.out.here (by omega)
            subst hgA
            obtain ⟨hgp, hgl, hgf⟩ := OU.out.hereAt
            obtain ⟨g, off, hA2, hg, c0, c1, c2, _⟩ := RdEn.at3 R0.out.su (k := j) (by rw [hn2]; omega)
            dsimp only at hA2 c0 c1 c2
            have c0w := (BB.out.cell (p := ⟨g, off + j * 3, none⟩) hg).trans c0
            have c1w := (BB.out.cell (p := ⟨g, off + j * 3 + 1, none⟩) hg).trans c1
            have c2w := (BB.out.cell (p := ⟨g, off + j * 3 + 2, none⟩) hg).trans c2
            have i1 : (b : Int) < (sn2 : Int) := by omega
            have i2 : (j : Int) < (sn2 : Int) := by omega
            obtain ⟨z, hz⟩ : ∃ z, su[j] = z := ⟨_, rfl⟩
            rw [hz] at c0 c1 c2 c0w c1w c2w
            have HZ := Lib.hid hz
            clear hz
            obtain ⟨_, _, e9, _, hc9⟩ := (rdk_own OU.out).at_ (k := b) (by first | omega | (simp only [List.length_set]; omega))
            injection e9 with e9
            injection e9 with e9a e9b _
            subst e9a; subst e9b
            have o0 := hc9 0 _ rfl
            have o1 := hc9 1 _ rfl
            have o2 := hc9 2 _ rfl
            have u0 := hgf (b * 3)
            have u1 := hgf (b * 3 + 1)
            have u2 := hgf (b * 3 + 2)
            clear hc9 hgf
            rw [show 0 + b * layE.k + 0 = b * 3 by show 0 + b * 3 + 0 = b * 3; omega] at o0
            rw [show 0 + b * layE.k + 1 = b * 3 + 1 by show 0 + b * 3 + 1 = b * 3 + 1; omega] at o1
            rw [show 0 + b * layE.k + 2 = b * 3 + 2 by show 0 + b * 3 + 2 = b * 3 + 2; omega] at o2
            have hS0 : Blk w9.drew w.heap.size 52 #[.int .i64 se, .slice sA sn sc, .slice sA1 sn1 sc1, .slice sA2 sn2 sc2] ∧ Blk w9.drew w8.heap.size 52 #[.int .i64 se, .slice sA sn sc, .slice sA1 sn1 sc1, .slice (some ⟨g11, 0, none⟩) sn2 cOU] ∧ w9.drew.cell? ⟨g, off + j * 3, none⟩ = some (.int .i64 z.id) ∧ w9.drew.cell? ⟨g, off + j * 3 + 1, none⟩ = some (.int .i64 z.fr) ∧ w9.drew.cell? ⟨g, off + j * 3 + 2, none⟩ = some (.slice z.A z.n z.c) := ⟨BXs.out, BXu.out, c0w, c1w, c2w⟩
            refine wp_region_held_drew (S := fun w' => Blk w' w.heap.size 52 #[.int .i64 se, .slice sA sn sc, .slice sA1 sn1 sc1, .slice sA2 sn2 sc2] ∧ Blk w' w8.heap.size 52 #[.int .i64 se, .slice sA sn sc, .slice sA1 sn1 sc1, .slice (some ⟨g11, 0, none⟩) sn2 cOU] ∧ w'.cell? ⟨g, off + j * 3, none⟩ = some (.int .i64 z.id) ∧ w'.cell? ⟨g, off + j * 3 + 1, none⟩ = some (.int .i64 z.fr) ∧ w'.cell? ⟨g, off + j * 3 + 2, none⟩ = some (.slice z.A z.n z.c)) (by kernel_rfl) hS0 (fun _ => ?_)
            refine wpAnyH_yes (i := 0) (d := 68) (v := ?_) rfl rfl (by kernel_rfl) (by kernel_rfl) (by kernel_rfl) (fun _ _ _ h => h) (by rfl) ?_ hS0 ?_
            rotate_left
            · intro w' hSw; subst hA2; obtain ⟨r0, r1, r2, r3, _⟩ := blk4 hSw.1; obtain ⟨m0, m1, m2, m3, _⟩ := blk4 hSw.2.1; have r4 := hSw.2.2.1; have r5 := hSw.2.2.2.1; have r6 := hSw.2.2.2.2; go_simp <;> with_reducible rfl
            simp only [Act.put, List.setIfInBounds_toArray, List.set_cons_zero, List.set_cons_succ]
            refine wpAnyH_yes (i := 1) (d := 69) (v := ?_) rfl rfl (by kernel_rfl) (by kernel_rfl) (by kernel_rfl) (fun _ _ _ h => h) (by rfl) ?_ hS0 ?_
            rotate_left
            · intro w' hSw; subst hA2; obtain ⟨r0, r1, r2, r3, _⟩ := blk4 hSw.1; obtain ⟨m0, m1, m2, m3, _⟩ := blk4 hSw.2.1; have r4 := hSw.2.2.1; have r5 := hSw.2.2.2.1; have r6 := hSw.2.2.2.2; go_simp <;> with_reducible rfl
            simp only [Act.put, List.setIfInBounds_toArray, List.set_cons_zero, List.set_cons_succ]
            refine wpAnyH_yes (i := 2) (d := 70) (v := ?_) rfl rfl (by kernel_rfl) (by kernel_rfl) (by kernel_rfl) (fun _ _ _ h => h) (by rfl) ?_ hS0 ?_
            rotate_left
            · intro w' hSw; subst hA2; obtain ⟨r0, r1, r2, r3, _⟩ := blk4 hSw.1; obtain ⟨m0, m1, m2, m3, _⟩ := blk4 hSw.2.1; have r4 := hSw.2.2.1; have r5 := hSw.2.2.2.1; have r6 := hSw.2.2.2.2; go_simp <;> with_reducible rfl
            simp only [Act.put, List.setIfInBounds_toArray, List.set_cons_zero, List.set_cons_succ]
            refine wpAnyH_yes (i := 3) (d := 71) (v := ?_) rfl rfl (by kernel_rfl) (by kernel_rfl) (by kernel_rfl) (fun _ _ _ h => h) (by rfl) ?_ hS0 ?_
            rotate_left
            · intro w' hSw; subst hA2; obtain ⟨r0, r1, r2, r3, _⟩ := blk4 hSw.1; obtain ⟨m0, m1, m2, m3, _⟩ := blk4 hSw.2.1; have r4 := hSw.2.2.1; have r5 := hSw.2.2.2.1; have r6 := hSw.2.2.2.2; go_simp <;> with_reducible rfl
            simp only [Act.put, List.setIfInBounds_toArray, List.set_cons_zero, List.set_cons_succ]
            refine wpAnyH_yes (i := 4) (d := 72) (v := ?_) rfl rfl (by kernel_rfl) (by kernel_rfl) (by kernel_rfl) (fun _ _ _ h => h) (by rfl) ?_ hS0 ?_
            rotate_left
            · intro w' hSw; subst hA2; obtain ⟨r0, r1, r2, r3, _⟩ := blk4 hSw.1; obtain ⟨m0, m1, m2, m3, _⟩ := blk4 hSw.2.1; have r4 := hSw.2.2.1; have r5 := hSw.2.2.2.1; have r6 := hSw.2.2.2.2; go_simp <;> with_reducible rfl
            simp only [Act.put, List.setIfInBounds_toArray, List.set_cons_zero, List.set_cons_succ]
            refine wpAnyH_yes (i := 5) (d := 73) (v := ?_) rfl rfl (by kernel_rfl) (by kernel_rfl) (by kernel_rfl) (fun _ _ _ h => h) (by rfl) ?_ hS0 ?_
            rotate_left
            · intro w' hSw; subst hA2; obtain ⟨r0, r1, r2, r3, _⟩ := blk4 hSw.1; obtain ⟨m0, m1, m2, m3, _⟩ := blk4 hSw.2.1; have r4 := hSw.2.2.1; have r5 := hSw.2.2.2.1; have r6 := hSw.2.2.2.2; go_simp <;> with_reducible rfl
            simp only [Act.put, List.setIfInBounds_toArray, List.set_cons_zero, List.set_cons_succ]
            refine wpAnyH_yes (i := 6) (d := 74) (v := ?_) rfl rfl (by kernel_rfl) (by kernel_rfl) (by kernel_rfl) (fun _ _ _ h => h) (by rfl) ?_ hS0 ?_
            rotate_left
            · intro w' hSw; subst hA2; obtain ⟨r0, r1, r2, r3, _⟩ := blk4 hSw.1; obtain ⟨m0, m1, m2, m3, _⟩ := blk4 hSw.2.1; have r4 := hSw.2.2.1; have r5 := hSw.2.2.2.1; have r6 := hSw.2.2.2.2; go_simp <;> with_reducible rfl
            simp only [Act.put, List.setIfInBounds_toArray, List.set_cons_zero, List.set_cons_succ]
            refine wpAnyH_yes (i := 7) (d := 75) (v := ?_) rfl rfl (by kernel_rfl) (by kernel_rfl) (by kernel_rfl) (fun _ _ _ h => h) (by rfl) ?_ hS0 ?_
            rotate_left
            · intro w' hSw; subst hA2; obtain ⟨r0, r1, r2, r3, _⟩ := blk4 hSw.1; obtain ⟨m0, m1, m2, m3, _⟩ := blk4 hSw.2.1; have r4 := hSw.2.2.1; have r5 := hSw.2.2.2.1; have r6 := hSw.2.2.2.2; go_simp <;> with_reducible rfl
            simp only [Act.put, List.setIfInBounds_toArray, List.set_cons_zero, List.set_cons_succ]
            refine wpAnyH_yes (i := 8) (d := 76) (v := ?_) rfl rfl (by kernel_rfl) (by kernel_rfl) (by kernel_rfl) (fun _ _ _ h => h) (by rfl) ?_ hS0 ?_
            rotate_left
            · intro w' hSw; subst hA2; obtain ⟨r0, r1, r2, r3, _⟩ := blk4 hSw.1; obtain ⟨m0, m1, m2, m3, _⟩ := blk4 hSw.2.1; have r4 := hSw.2.2.1; have r5 := hSw.2.2.2.1; have r6 := hSw.2.2.2.2; go_simp <;> with_reducible rfl
            simp only [Act.put, List.setIfInBounds_toArray, List.set_cons_zero, List.set_cons_succ]
            have o0' : w9.drew.cell? ⟨g11, b * 3, none⟩ = _ := o0
            have o1' : w9.drew.cell? ⟨g11, b * 3 + 1, none⟩ = _ := o1
            have o2' : w9.drew.cell? ⟨g11, b * 3 + 2, none⟩ = _ := o2
            have u0' : w9.drew.frozen? ⟨g11, b * 3, none⟩ = false := u0
            have u1' : w9.drew.frozen? ⟨g11, b * 3 + 1, none⟩ = false := u1
            have u2' : w9.drew.frozen? ⟨g11, b * 3 + 2, none⟩ = false := u2
            have hgl' : g11 < w9.drew.heap.size := hgl
            have OU' : Hid (OwnK layE w9.drew (w8.heap.size + 1) (.slice (some ⟨g11, 0, none⟩) sn2 cOU) (su)) := OU.out.below (Below.refl _ _).drew
            have BXs' := Lib.hid (Blk.below BXs.out (show Below w9.heap.size w9 w9.drew from (Below.refl _ _).drew) BXs.out.lt)
            have BB' := Lib.hid (BB.out.drew)
            have BXt' := Lib.hid (Blk.below BXt.out (show Below w9.heap.size w9 w9.drew from (Below.refl _ _).drew) BXt.out.lt)
            have BB8' := Lib.hid (BB8.out.drew)
            have BXu' := Lib.hid (Blk.below BXu.out (show Below w9.heap.size w9 w9.drew from (Below.refl _ _).drew) BXu.out.lt)
            clear hS0 c0w c1w c2w BXs BB BXt BB8 BXu OU o0 o1 o2 u0 u1 u2 hgl
            have BXs := BXs'
            clear BXs'
            have BB := BB'
            clear BB'
            have BXt := BXt'
            clear BXt'
            have BB8 := BB8'
            clear BB8'
            have BXu := BXu'
            clear BXu'
            have OU := OU'
            clear OU'
            have o0 := o0'
            clear o0'
            have o1 := o1'
            clear o1'
            have o2 := o2'
            clear o2'
            have u0 := u0'
            clear u0'
            have u1 := u1'
            clear u1'
            have u2 := u2'
            clear u2'
            have hgl := hgl'
            clear hgl'
            generalize w9.drew = wd at *
            refine wpAnyH_one (i := 9) (by kernel_rfl) rfl (by rfl) (fun K hK => ?_)
            go_simp
            have OU' : Hid (OwnK layE (((wd.setCell ⟨g11, b * 3, none⟩ (.int .i64 z.id)).setCell ⟨g11, b * 3 + 1, none⟩ (.int .i64 z.fr)).setCell ⟨g11, b * 3 + 2, none⟩ (.slice z.A z.n z.c)) (w8.heap.size + 1) (.slice (some ⟨g11, 0, none⟩) sn2 cOU) ((su).set b su[j])) := by
              rw [HZ.out]
              exact OU.out.setE (by first | exact hn2 | (simp only [List.length_set]; exact hn2)) b (by omega) z
            have hne : w.heap.size ≠ g11 := by omega
            have BXs' := Lib.hid (((Blk.far BXs.out (p := ⟨g11, b * 3, none⟩) hne (.int .i64 z.id)).far (p := ⟨g11, b * 3 + 1, none⟩) hne (.int .i64 z.fr)).far (p := ⟨g11, b * 3 + 2, none⟩) hne (.slice z.A z.n z.c))
            clear hne
            have BB' : Hid (Below w.heap.size w (((wd.setCell ⟨g11, b * 3, none⟩ (.int .i64 z.id)).setCell ⟨g11, b * 3 + 1, none⟩ (.int .i64 z.fr)).setCell ⟨g11, b * 3 + 2, none⟩ (.slice z.A z.n z.c))) := below_set (below_set (below_set BB.out (by omega)) (by omega)) (by omega)
            have hne : p9 ≠ g11 := by omega
            have BXt' := Lib.hid (((Blk.far BXt.out (p := ⟨g11, b * 3, none⟩) hne (.int .i64 z.id)).far (p := ⟨g11, b * 3 + 1, none⟩) hne (.int .i64 z.fr)).far (p := ⟨g11, b * 3 + 2, none⟩) hne (.slice z.A z.n z.c))
            clear hne
            have BB8' : Hid (Below w8.heap.size w8 (((wd.setCell ⟨g11, b * 3, none⟩ (.int .i64 z.id)).setCell ⟨g11, b * 3 + 1, none⟩ (.int .i64 z.fr)).setCell ⟨g11, b * 3 + 2, none⟩ (.slice z.A z.n z.c))) := below_set (below_set (below_set BB8.out (by omega)) (by omega)) (by omega)
            have hne : w8.heap.size ≠ g11 := by omega
            have BXu' := Lib.hid (((Blk.far BXu.out (p := ⟨g11, b * 3, none⟩) hne (.int .i64 z.id)).far (p := ⟨g11, b * 3 + 1, none⟩) hne (.int .i64 z.fr)).far (p := ⟨g11, b * 3 + 2, none⟩) hne (.slice z.A z.n z.c))
            clear hne
            clear BXs BB BXt BB8 BXu OU o0 o1 o2 u0 u1 u2 hgl
            have BXs := BXs'
            clear BXs'
            have BB := BB'
            clear BB'
            have BXt := BXt'
            clear BXt'
            have BB8 := BB8'
            clear BB8'
            have BXu := BXu'
            clear BXu'
            have OU := OU'
            clear OU'
            refine hK.out _ _ ⟨BXs.out, BXu.out, (BB.out.cell (p := ⟨g, off + j * 3, none⟩) hg).trans c0, (BB.out.cell (p := ⟨g, off + j * 3 + 1, none⟩) hg).trans c1, (BB.out.cell (p := ⟨g, off + j * 3 + 2, none⟩) hg).trans c2⟩ ?_
            clear hK K c0 c1 c2 hg i1 i2 HZ hgp hA2
            refine wpAnyH_done (by kernel_rfl) ?_ _
            generalize (((wd.setCell ⟨g11, b * 3, none⟩ (.int .i64 z.id)).setCell ⟨g11, b * 3 + 1, none⟩ (.int .i64 z.fr)).setCell ⟨g11, b * 3 + 2, none⟩ (.slice z.A z.n z.c)) = w12 at *
            have RU8 : Hid (RdK layE w12 (some ⟨g11, 0, none⟩) (su.set b su[j])) := rdk_own OU.out
            have hcU : sn2 ≤ cOU := by obtain ⟨_, _, e, h, _⟩ := OwnK.form OU.out (n := sn2) (by simp only [List.length_set]; exact hn2); cases e; exact h
            clear OU
            have Rt : Hid (Sx.Rd w12 ⟨se, sA, sn, sc, sl, sA1, sn1, sc1, sv, some ⟨g7, 0, none⟩, sn2, cOT, (su.set j su[b]).set b su[j]⟩) := ⟨(R0.out.below BB.out).ls, (R0.out.below BB.out).av, rd_sub (R0.out.below BB.out).su (R8.out.below BB8.out) (swap_mem hjl hbl)⟩
            have LNt : Hid (Sx.Len ⟨se, sA, sn, sc, sl, sA1, sn1, sc1, sv, some ⟨g7, 0, none⟩, sn2, cOT, (su.set j su[b]).set b su[j]⟩) := ⟨LNs.out.n, LNs.out.c, LNs.out.n1, LNs.out.c1, by simp only [List.length_set]; exact hn2, hcT⟩
            have FWt : Hid (Sx.Few ⟨se, sA, sn, sc, sl, sA1, sn1, sc1, sv, some ⟨g7, 0, none⟩, sn2, cOT, (su.set j su[b]).set b su[j]⟩) := ⟨OKs.out.few.n, OKs.out.few.n1, by show sn2 ≤ 100000; omega, OKs.out.few.av, short_sub OKs.out.few.su (swap_mem hjl hbl)⟩
            have PUt : Hid (PBs ((su.set j su[b]).set b su[j])) := pbs_sub OKs.out.pu (swap_mem hjl hbl)
            have Nt : Hid (¬ Tb.Right (Sx.bk ⟨se, sA, sn, sc, sl, sA1, sn1, sc1, sv, some ⟨g7, 0, none⟩, sn2, cOT, (su.set j su[b]).set b su[j]⟩) ∧ su.map Ex.en ≠ ((su.set j su[b]).set b su[j]).map Ex.en) := swap_t RR.out hjb hbl hjl
            have Mt : Hid (Sx.bk ⟨se, sA, sn, sc, sl, sA1, sn1, sc1, sv, sA2, sn2, sc2, su⟩ ≠ Sx.bk ⟨se, sA, sn, sc, sl, sA1, sn1, sc1, sv, some ⟨g7, 0, none⟩, sn2, cOT, (su.set j su[b]).set b su[j]⟩) := fun e => Nt.out.2 (congrArg Bk.su e)
            have Ru : Hid (Sx.Rd w12 ⟨se, sA, sn, sc, sl, sA1, sn1, sc1, sv, some ⟨g11, 0, none⟩, sn2, cOU, su.set b su[j]⟩) := ⟨(R0.out.below BB.out).ls, (R0.out.below BB.out).av, rd_sub (R0.out.below BB.out).su (RU8.out) (put_mem hjl)⟩
            have LNu : Hid (Sx.Len ⟨se, sA, sn, sc, sl, sA1, sn1, sc1, sv, some ⟨g11, 0, none⟩, sn2, cOU, su.set b su[j]⟩) := ⟨LNs.out.n, LNs.out.c, LNs.out.n1, LNs.out.c1, by simp only [List.length_set]; exact hn2, hcU⟩
            have FWu : Hid (Sx.Few ⟨se, sA, sn, sc, sl, sA1, sn1, sc1, sv, some ⟨g11, 0, none⟩, sn2, cOU, su.set b su[j]⟩) := ⟨OKs.out.few.n, OKs.out.few.n1, by show sn2 ≤ 100000; omega, OKs.out.few.av, short_sub OKs.out.few.su (put_mem hjl)⟩
            have PUu : Hid (PBs (su.set b su[j])) := pbs_sub OKs.out.pu (put_mem hjl)
            have Nu : Hid (¬ Tb.Right (Sx.bk ⟨se, sA, sn, sc, sl, sA1, sn1, sc1, sv, some ⟨g11, 0, none⟩, sn2, cOU, su.set b su[j]⟩) ∧ su.map Ex.en ≠ (su.set b su[j]).map Ex.en) := put_t RR.out hjb hbl hjl
            have Mu : Hid (Sx.bk ⟨se, sA, sn, sc, sl, sA1, sn1, sc1, sv, sA2, sn2, sc2, su⟩ ≠ Sx.bk ⟨se, sA, sn, sc, sl, sA1, sn1, sc1, sv, some ⟨g11, 0, none⟩, sn2, cOU, su.set b su[j]⟩) := fun e => Nu.out.2 (congrArg Bk.su e)
            clear R8 RU8 BB8
            obtain ⟨x0, x1, x2, x3, _⟩ := blk4 BXs.out
            have hlx := BXs.out.lt
            obtain ⟨z0, z1, z2, z3, _⟩ := blk4 BXt.out
            have hlz := BXt.out.lt
            obtain ⟨v0, v1, v2, v3, _⟩ := blk4 BXu.out
            have hlv := BXu.out.lt
            go_wp2_with fail
            refine (right_st ⟨se, sA, sn, sc, sl, sA1, sn1, sc1, sv, some ⟨g7, 0, none⟩, sn2, cOT, (su.set j su[b]).set b su[j]⟩ LNt.out FWt.out OKs.out.pa PUt.out _ Rt.out false ⟨fun h => (by cases h), fun h => absurd h Nt.out.1⟩).mono ?_
            rintro e w13 ⟨rfl, hb⟩
            clear x0 x1 x2 x3 hlx z0 z1 z2 z3 hlz v0 v1 v2 v3 hlv
            replace BXs := Lib.hid (Blk.below BXs.out hb BXs.out.lt)
            replace BB := Lib.hid (below_next BB.out (by have := BB.out.size; omega) hb)
            replace BXt := Lib.hid (Blk.below BXt.out hb BXt.out.lt)
            replace BXu := Lib.hid (Blk.below BXu.out hb BXu.out.lt)
            replace Rt := Lib.hid (Rt.out.below hb)
            replace Ru := Lib.hid (Ru.out.below hb)
            clear hb
            obtain ⟨x0, x1, x2, x3, _⟩ := blk4 BXs.out
            have hlx := BXs.out.lt
            obtain ⟨z0, z1, z2, z3, _⟩ := blk4 BXt.out
            have hlz := BXt.out.lt
            obtain ⟨v0, v1, v2, v3, _⟩ := blk4 BXu.out
            have hlv := BXu.out.lt
            go_wp2_with fail
            refine (right_st ⟨se, sA, sn, sc, sl, sA1, sn1, sc1, sv, some ⟨g11, 0, none⟩, sn2, cOU, su.set b su[j]⟩ LNu.out FWu.out OKs.out.pa PUu.out _ Ru.out false ⟨fun h => (by cases h), fun h => absurd h Nu.out.1⟩).mono ?_
            rintro e w14 ⟨rfl, hb⟩
            clear x0 x1 x2 x3 hlx z0 z1 z2 z3 hlz v0 v1 v2 v3 hlv
            replace BXs := Lib.hid (Blk.below BXs.out hb BXs.out.lt)
            replace BB := Lib.hid (below_next BB.out (by have := BB.out.size; omega) hb)
            replace BXt := Lib.hid (Blk.below BXt.out hb BXt.out.lt)
            replace BXu := Lib.hid (Blk.below BXu.out hb BXu.out.lt)
            replace Rt := Lib.hid (Rt.out.below hb)
            replace Ru := Lib.hid (Ru.out.below hb)
            clear hb
            obtain ⟨x0, x1, x2, x3, _⟩ := blk4 BXs.out
            have hlx := BXs.out.lt
            obtain ⟨z0, z1, z2, z3, _⟩ := blk4 BXt.out
            have hlz := BXt.out.lt
            obtain ⟨v0, v1, v2, v3, _⟩ := blk4 BXu.out
            have hlv := BXu.out.lt
            go_wp2_with fail
            refine (same_st ⟨se, sA, sn, sc, sl, sA1, sn1, sc1, sv, sA2, sn2, sc2, su⟩ ⟨se, sA, sn, sc, sl, sA1, sn1, sc1, sv, some ⟨g7, 0, none⟩, sn2, cOT, (su.set j su[b]).set b su[j]⟩ LNs.out LNt.out OKs.out.few FWt.out _ (R0.out.below BB.out) Rt.out false (decide_eq_false Mt.out)).mono ?_
            rintro e w15 ⟨rfl, hb⟩
            clear x0 x1 x2 x3 hlx z0 z1 z2 z3 hlz v0 v1 v2 v3 hlv
            replace BXs := Lib.hid (Blk.below BXs.out hb BXs.out.lt)
            replace BB := Lib.hid (below_next BB.out (by have := BB.out.size; omega) hb)
            replace BXt := Lib.hid (Blk.below BXt.out hb BXt.out.lt)
            replace BXu := Lib.hid (Blk.below BXu.out hb BXu.out.lt)
            replace Rt := Lib.hid (Rt.out.below hb)
            replace Ru := Lib.hid (Ru.out.below hb)
            clear hb
            obtain ⟨x0, x1, x2, x3, _⟩ := blk4 BXs.out
            have hlx := BXs.out.lt
            obtain ⟨z0, z1, z2, z3, _⟩ := blk4 BXt.out
            have hlz := BXt.out.lt
            obtain ⟨v0, v1, v2, v3, _⟩ := blk4 BXu.out
            have hlv := BXu.out.lt
            go_wp2_with fail
            refine (same_st ⟨se, sA, sn, sc, sl, sA1, sn1, sc1, sv, sA2, sn2, sc2, su⟩ ⟨se, sA, sn, sc, sl, sA1, sn1, sc1, sv, some ⟨g11, 0, none⟩, sn2, cOU, su.set b su[j]⟩ LNs.out LNu.out OKs.out.few FWu.out _ (R0.out.below BB.out) Ru.out false (decide_eq_false Mu.out)).mono ?_
            rintro e w16 ⟨rfl, hb⟩
            clear x0 x1 x2 x3 hlx z0 z1 z2 z3 hlz v0 v1 v2 v3 hlv
            replace BXs := Lib.hid (Blk.below BXs.out hb BXs.out.lt)
            replace BB := Lib.hid (below_next BB.out (by have := BB.out.size; omega) hb)
            replace BXt := Lib.hid (Blk.below BXt.out hb BXt.out.lt)
            replace BXu := Lib.hid (Blk.below BXu.out hb BXu.out.lt)
            replace Rt := Lib.hid (Rt.out.below hb)
            replace Ru := Lib.hid (Ru.out.below hb)
            clear hb
            go_wp2_with fail
            go_ret
            exact ⟨rfl, BB.out⟩

/-! ### The row's step. -/
namespace tableSwaps
theorem own : ownKnob Tryz.prog.godebug = none := by kernel_rfl
theorem laidOut : laidOutB Tryz.prog = true := by kernel_rfl
set_option linter.unusedVariables false in
set_option maxRecDepth 100000 in
theorem lifted (os : Os) (started : os.Started) (H : Type) (enc : TypeId × Value → H) :
    ReturnsInHanded {} Tryz.checked os 8 .any (Rows.tableSwapsSpec.pre6 enc Tryz.prog Tryz.f8 Rows.tableSwapsRow.domain false) (Rows.tableSwapsSpec.post enc Tryz.prog Tryz.f8 false true false false) := by
  refine returnsInHanded_of_change_sized (C := Tryz.checked) own started (by kernel_rfl) Tryz.func8
    (ChangeSpec.witness6 (enc := enc) (C := Tryz.checked) false ⟨#[], #[.agg #[.int .i64 0, .slice none 0 0, .slice none 0 0, .slice none 0 0], .int .i64 0, .int .i64 0], []⟩ 8 (by kernel_rfl) (by kernel_rfl) (by kernel_rfl) (by kernel_rfl)) ?_
  intro W base args ds gs before hval0 hW hcnd hsz0 _
  have hval : ∀ (j : Nat) t v, Tryz.f8.params[j]? = some t → args[j]? = some v → Value.okWide Tryz.prog W .any base t v := hval0
  have hsz : (DataW.weightsEach Tryz.prog (Tryz.f8.params.toList ++ Rows.tableSwapsSpec.plain.varTypes Tryz.prog) (ds ++ gs)).all (· ≤ reachBytes) = true := hsz0
  have hW' := hW
  obtain ⟨p, q, hA0, hV, rfl, hfz, hnd⟩ := hW
  have hA : DataW.TrodAll enc Tryz.prog W 0 (fun _ => true) true Tryz.f8.params.toList args.toList ds p := hA0
  rw [Tryz.params8] at hA hval hsz
  obtain ⟨v0, vs0, d0, ds0, p0, q0, hargs, rfl, rfl, h0, r0⟩ := trodAll_cons hA
  obtain ⟨v1, vs1, d1, ds1, p1, q1, rfl, rfl, rfl, h1, r1⟩ := trodAll_cons r0
  obtain ⟨v2, vs2, d2, ds2, p2, q2, rfl, rfl, rfl, h2, r2⟩ := trodAll_cons r1
  obtain ⟨rfl, rfl, rfl⟩ := trodAll_nil r2
  obtain rfl : args = #[v0, v1, v2] := by cases args; simp_all
  obtain ⟨rfl, rfl⟩ := trodVars_none hV
  obtain ⟨s0, rfl, ln0, rs0, we0, cp0, sz0, lb0, ab0, ub0⟩ := open_state (hval 0 52 v0 rfl rfl) h0 (fun n hn => by simpa using List.all_eq_true.1 hsz n (DataW.weights_mem_each (j := 0) rfl rfl n hn))
  have k0 := h0
  have lt0 : ∀ x ∈ p0, x.block < W.heap.size := by obtain ⟨m, hm⟩ := k0; exact DataW.trod_lt m _ _ _ hm
  obtain ⟨a1, rfl, rfl, rfl, w1⟩ := open_int Tryz.underlying3 (hval 1 3 v1 rfl rfl) h1
  obtain ⟨a2, rfl, rfl, rfl, w2⟩ := open_int Tryz.underlying3 (hval 2 3 v2 rfl rfl) h2
  clear hA0 hval0
  refine (walk_TableSwaps W s0 ln0 rs0 we0 cp0 sz0 lb0 ab0 ub0 a1 w1 a2 w2).mono fun e W' ⟨he, bel⟩ => ?_
  subst he
  exact ⟨_, rfl, _, _, _, [], _, [], hW', trodAll_mk1 (shut_bool Tryz.underlying4 _), (trodAll_cons_mk (Below.trod laidOut (by kernel_rfl) (of_decide_eq_true (by kernel_rfl)) k0 bel lt0) (trodAll_cons_mk (shut_int Tryz.underlying3 w1) (trodAll_cons_mk (shut_int Tryz.underlying3 w2) trodAll_mk0))), rfl, bel.frame _, fun h => by cases h⟩
theorem over : Rows.tableSwapsRow.holds Tryz.pinned (OpenSpec.ofChange Rows.tableSwapsSpec) :=
  OpenClaim.holds_of_wide 8 Tryz.f8 rfl rfl rfl rfl rfl rfl rfl ⟨rfl, rfl, rfl, rfl, rfl⟩ rfl rfl rfl rfl rfl (by kernel_rfl) Tryz.func8 (by kernel_rfl)
    (of_decide_eq_true (by kernel_rfl)) (by unfold Func.isWrapper; first | (rw [if_pos (by decide +kernel)]; kernel_rfl) | (rw [if_neg (by decide +kernel)]; exact ⟨rfl, rfl⟩))
    (fun os started H enc _ => lifted os started H enc)
end tableSwaps
/-- THE STATEMENT. -/
theorem tableSwaps_holds : Rows.TableSwapsSaid := tableSwaps.over
#print axioms tableSwaps_holds
end Go.Proofs.YtoffnfooeojhnaaGreat
