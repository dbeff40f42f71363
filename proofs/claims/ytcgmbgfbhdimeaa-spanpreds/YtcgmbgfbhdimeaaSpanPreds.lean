/-
  A span's predicates tell it again, are right, and do so just once: for every row of predicates and every name the call of the law answers true, and all arguments read behind it as they read before. No condition.
-/
import Derived.Test.YtcgmbgfbhdimeaaSSml
import Derived.Test.YtcgmbgfbhdimeaaSArgs
namespace Go.Proofs.Ytcgmbgfbhdimeaa
open Go.RowKit Go.ChangeShapes Go.WideShapes Go.ChangeAt Go.Sort Spans
theorem orP_len (l : List Pr) (d : Pr) : (orP l d).length ≤ l.length + 1 := by
  unfold orP
  split
  · simp
  · omega
theorem preds_len (n : List UInt8) (a : Sp) : (predsOf n a).length ≤ a.no.length + 3 := by
  unfold predsOf
  split
  · simp
  split
  · simp
  split
  · split
    · simp
    · refine Nat.le_trans (orP_len _ _) ?_
      have h1 : (frmP n a).length ≤ 1 := by unfold frmP; split <;> (try split) <;> simp
      have h2 : (toP n a).length ≤ 1 := by unfold toP; split <;> (try split) <;> simp
      have h3 : (noP n a).length = a.no.length := by unfold noP; simp
      simp only [List.length_append]
      omega
  · split
    · simp
    · refine Nat.le_trans (orP_len _ _) ?_
      have h1 : (loP n a).length ≤ 1 := by unfold loP; split <;> simp
      have h2 : (hiP n a).length ≤ 1 := by unfold hiP; split <;> simp
      have h3 : (noP n a).length = a.no.length := by unfold noP; simp
      simp only [List.length_append]
      omega
theorem preds_nil {n : List UInt8} {a : Sp} (h : a.kind = 0) : predsOf n a = [] := by unfold predsOf; rw [if_pos h]
theorem preds_is (n : List UInt8) (K lo hi : Int) (f t : List UInt8) (o : Bool) (no : List Val) (ha : Canon ⟨K, lo, hi, f, t, o, no⟩) (A : Option Addr) (m c : Nat) (w : World) (hm : no.length = m) (hmm : m ≤ 10000) (hr : RdW w A no) (hn : n.length ≤ 9223372036854775807) (l : List Pr) (hl : prs n ⟨K, lo, hi, f, t, o, no⟩ = l) :
    Calls Try.prog 21 #[.string ⟨n.toArray⟩, spF K lo hi f t o A m c] w (GivesQ w l) := preds_at n ⟨K, lo, hi, f, t, o, no⟩ ha A m c w hm hmm hr hn l hl
set_option maxRecDepth 100000 in
set_option maxHeartbeats 8000000 in
theorem walk_SpanPreds (w : World) (A : Option Addr) (l : List Pr) (n c : Nat) (hn : l.length = n) (hc : n ≤ c) (hm : c ≤ maxLen) (hr : RdQ w A l) (hl : ∀ a ∈ l, a.n.length ≤ maxLen ∧ a.t.length ≤ maxLen ∧ (Lit.int .i64 a.i).wf = true) (nm : List UInt8) (hnm : nm.length ≤ maxLen) :
    Calls Try.prog 7 #[.slice A n c, .string ⟨nm.toArray⟩] w fun e w' => e = .returned (.bool true) ∧ Below w.heap.size w w' := by
  rw [maxLen_num] at hm hnm
  have HL2 : Hid (∀ p ∈ l, p.n.length ≤ 9223372036854775807 ∧ p.t.length ≤ 9223372036854775807) := fun p hp => by have := hl p hp; rw [maxLen_num] at this; exact ⟨this.1, this.2.1⟩
  have HL3 : Hid (∀ p ∈ l, -9223372036854775808 ≤ p.i ∧ p.i ≤ 9223372036854775807) := fun p hp => bounds_i64 (hl p hp).2.2
  have HN := Lib.hid hn
  have HR := Lib.hid hr
  clear hn hl hr
  go_enter Try.func7, Try.ntmps7
  go_wp2_with fail
  refine (small_at w).mono ?_
  rintro e w1 ⟨rfl, hB1⟩
  cases hfw : fewP l with
  | false =>
    have HFW := Lib.hid hfw
    clear hfw
    go_wp2_with fail
    refine (few_at A l n c HN.out (by omega) HL2.out w1 (HR.out.below hB1) false HFW.out).mono ?_
    rintro e w2 ⟨rfl, rfl⟩
    go_wp2_with fail
    go_ret
    exact ⟨rfl, hB1⟩
  | true =>
    have HFW := Lib.hid hfw
    clear hfw
    go_wp2_with fail
    refine (few_at A l n c HN.out (by omega) HL2.out w1 (HR.out.below hB1) true HFW.out).mono ?_
    rintro e w2 ⟨rfl, rfl⟩
    by_cases hn1 : nm.length < 1
    · have v1 : (nm.length : Int) < 1 := by omega
      go_wp2_with fail
      go_ret
      exact ⟨rfl, hB1⟩
    by_cases hn2 : 16 < nm.length
    · have v1 : ¬ (nm.length : Int) < 1 := by omega
      have v2 : (16 : Int) < (nm.length : Int) := by omega
      go_wp2_with fail
      go_ret
      exact ⟨rfl, hB1⟩
    have v1 : ¬ (nm.length : Int) < 1 := by omega
    have v2 : ¬ (16 : Int) < (nm.length : Int) := by omega
    have hN1 : 1 ≤ nm.length := by omega
    have hN2 : nm.length ≤ 16 := by omega
    have hfw := HFW.out
    unfold fewP at hfw
    rw [Bool.and_eq_true, decide_eq_true_iff, decide_eq_true_iff] at hfw
    have HSH := Lib.hid hfw.1
    have hn24 : n ≤ 24 := by have := HN.out; omega
    clear hfw HFW
    go_wp2_with fail
    refine (fold_at A l n c HN.out (by omega) (fun p hp => ⟨(HSH.out p hp).1, (HSH.out p hp).2, HL3.out p hp⟩) w2 (HR.out.below hB1)).mono ?_
    rintro e w3 ⟨⟨rK, rlo, rhi, rf, rt, ro, rno⟩, hall, hrl, X, d, e, rfl, hld, hde, hoX, hb3⟩
    dsimp only at hrl hld hoX
    have hcan : Canon (⟨rK, rlo, rhi, rf, rt, ro, rno⟩ : Sp) := hall.1
    have hd24 : d ≤ 24 := by have := HN.out; omega
    have hb4 : Below w3.heap.size w3 (w3.alloc (.cells #[.int .i64 rK, .int .i64 rlo, .int .i64 rhi, .string ⟨rf.toArray⟩, .string ⟨rt.toArray⟩, .bool ro, .slice X d e] 29)) := (Below.refl _ _).alloc (Nat.le_refl _) _
    have hV4 : Blk (w3.alloc (.cells #[.int .i64 rK, .int .i64 rlo, .int .i64 rhi, .string ⟨rf.toArray⟩, .string ⟨rt.toArray⟩, .bool ro, .slice X d e] 29)) w3.heap.size 29 #[.int .i64 rK, .int .i64 rlo, .int .i64 rhi, .string ⟨rf.toArray⟩, .string ⟨rt.toArray⟩, .bool ro, .slice X d e] := Blk.new _ _ _
    have hB4 := below_next (below_next hB1 (Nat.le_refl _) hb3) (Nat.le_refl _) hb4
    have hrX := (Gives.rd hoX).below hb4
    have hprs : prs nm (⟨rK, rlo, rhi, rf, rt, ro, rno⟩ : Sp) = predsOf nm (⟨rK, rlo, rhi, rf, rt, ro, rno⟩ : Sp) := by unfold prs; rw [if_pos ⟨hN1, hN2⟩]
    obtain ⟨P, hP⟩ : ∃ P, predsOf nm (⟨rK, rlo, rhi, rf, rt, ro, rno⟩ : Sp) = P := ⟨_, rfl⟩
    have hPl : P.length ≤ d + 3 := by rw [← hP]; have := preds_len nm (⟨rK, rlo, rhi, rf, rt, ro, rno⟩ : Sp); dsimp only at this; omega
    have HPF : Hid (∀ p ∈ P, rightP p = true ∧ p.n = nm) := by rw [← hP]; exact preds_fine hcan hN1 hN2
    have hprP : prs nm (⟨rK, rlo, rhi, rf, rt, ro, rno⟩ : Sp) = P := hprs.trans hP
    have HP := Lib.hid hP
    have HPP := Lib.hid hprP
    have HCAN := Lib.hid hcan
    have HLD := Lib.hid hld
    have HRX := Lib.hid hrX
    have HV4 := Lib.hid hV4
    have HB4 := Lib.hid hB4
    clear hB1 hall hrl hoX hb3 hb4 hV4 hB4 hprs hP hprP hcan hld hrX v1 v2
    go_wp2_with fail
    generalize w3.alloc (.cells #[.int .i64 rK, .int .i64 rlo, .int .i64 rhi, .string ⟨rf.toArray⟩, .string ⟨rt.toArray⟩, .bool ro, .slice X d e] 29) = w4 at *
    generalize w3.heap.size = V at *
    refine (preds_at nm (⟨rK, rlo, rhi, rf, rt, ro, rno⟩ : Sp) HCAN.out X d e w4 HLD.out (by omega) HRX.out (by omega) P HPP.out).mono ?_
    rintro e' w5 ⟨vp, rfl, hop, hb5⟩
    obtain ⟨np, hnp⟩ : ∃ np, P.length = np := ⟨_, rfl⟩
    have HNP := Lib.hid hnp
    obtain ⟨Bp, cp, rfl, hcp, hrp⟩ := OwnK.form hop hnp
    have hnp27 : np ≤ 27 := by omega
    have HRP := Lib.hid hrp
    have HV5 := Lib.hid (Blk.below HV4.out hb5 HV4.out.lt)
    have HB5 := Lib.hid (below_next HB4.out (Nat.le_refl _) hb5)
    have HX5 := Lib.hid (HRX.out.below hb5)
    clear hop hnp hrp hb5 HV4 HB4 HRX hPl
    go_wp2_with fail
    go_loopg [9] np (fun gg s9 wr => ∃ q : Nat, q ≤ np ∧ np - q ≤ gg ∧ s9 = .int .i64 (q : Int) ∧ Hid (Below w5.heap.size w5 wr))
    case atStart => exact ⟨0, Nat.zero_le _, by omega, rfl, Below.refl _ _⟩
    case round =>
      obtain ⟨q, hq, hgg, rfl, HBQ⟩ := hrel
      by_cases hlt : q < np
      · have hq' : q < P.length := by rw [HNP.out]; exact hlt
        have hpf := HPF.out _ (List.getElem_mem hq')
        obtain ⟨g, off, rfl, hg, c0, c1, c2, c3, c4⟩ := RdQ.at5 (HRP.out.below HBQ.out) hq'
        obtain ⟨z, hz⟩ : ∃ z, P[q] = z := ⟨_, rfl⟩
        rw [hz] at c0 c1 c2 c3 c4 hpf
        clear hz
        obtain ⟨zn, zo, zk, zi, zt⟩ := z
        obtain ⟨hf1, hf2⟩ := hpf
        dsimp only at hf2
        subst hf2
        have hzt : zt.length ≤ 9223372036854775807 := by
          rcases rightP_cases hf1 with ⟨_, _, _, h⟩ | ⟨_, _, _, _, h, _⟩
          · dsimp only at h; subst h; simp
          · dsimp only at h; omega
        have HF1 : Hid (Preds.right zn zo zk zi zt = true) := ((rightP_iff _).1 hf1).1
        clear hf1
        have w5' : (q : Int) < (np : Int) := by omega
        go_wp2_with fail
        refine (pright_is zn zo zk zi zt wr (by omega) hzt true HF1.out).mono ?_
        rintro e' wy ⟨rfl, hby⟩
        have d0 := (hby.cell (p := ⟨g, off + q * 5, none⟩) hg).trans c0
        have hgy : g < wy.heap.size := Nat.lt_of_lt_of_le hg hby.size
        have HBY := Lib.hid (below_next HBQ.out (Nat.le_refl _) hby)
        clear c0 c1 c2 c3 c4 hby
        go_wp2_with fail
        go_roundg (np - (q + 1))
        case measure => omega
        case rel => exact ⟨q + 1, by omega, Nat.le_refl _, by go_num, HBY⟩
      · have w5' : ¬ (q : Int) < (np : Int) := by omega
        have HB6 := Lib.hid (below_next HB5.out (Nat.le_refl _) HBQ.out)
        have hV := Blk.below HV5.out HBQ.out HV5.out.lt
        have HRP6 := Lib.hid (HRP.out.below HBQ.out)
        have HX6 := Lib.hid (HX5.out.below HBQ.out)
        clear HB5 HV5 HRP HX5
        obtain ⟨s0, s1, s2, s3, s4, s5, s6, _⟩ := blk7 hV
        have hlV := hV.lt
        by_cases h0 : rK = 0
        · subst h0
          have hnp0 : np = 0 := by rw [← HNP.out, ← HP.out, preds_nil rfl]; rfl
          subst hnp0
          go_wp2_with fail
          go_ret
          exact ⟨rfl, HB6.out⟩
        · have v0 : (rK == 0) = false := beq_eq_false_iff_ne.2 h0
          have HPA : Hid (IsAll P (⟨rK, rlo, rhi, rf, rt, ro, rno⟩ : Sp)) := by rw [← HP.out]; exact preds_all HCAN.out h0 hN1 hN2
          have hnpos : 0 < np := by
            rw [← HNP.out, ← HP.out]
            exact List.length_pos_iff.2 (preds_ne h0)
          have vp : (0 : Int) < (np : Int) := by omega
          have hPn : P.length = np := HNP.out
          have hPb : ∀ p ∈ P, p.n.length ≤ 100 ∧ p.t.length ≤ 100 ∧ -9223372036854775808 ≤ p.i ∧ p.i ≤ 9223372036854775807 := fun p hp => by
            obtain ⟨h1, h2⟩ := HPF.out p hp
            have h3 := (rightP_iff p).1 h1
            refine ⟨by rw [h2]; omega, ?_, h3.2.1, h3.2.2⟩
            rcases rightP_cases h1 with ⟨_, _, _, h⟩ | ⟨_, _, _, _, h, _⟩
            · rw [h]; simp
            · omega
          have HPN := Lib.hid hPn
          have HPB := Lib.hid hPb
          clear hPn hPb
          go_wp2_with fail
          have hS0 : Below wr.heap.size wr wr.drew := (Below.refl _ _).drew
          refine wp_region_held_drew (S := fun w' => Below wr.heap.size wr w') (by kernel_rfl) hS0 (fun _ => ?_)
          clear s0 s1 s2 s3 s4 s5 s6 hlV
          refine wpAnyH_yes (i := 0) (d := 61) (v := ?_) rfl rfl (by kernel_rfl) (by kernel_rfl) (by kernel_rfl) (fun _ _ _ h => h) (by rfl) ?_ hS0 ?_
          rotate_left
          · intro w' hSw; go_simp <;> with_reducible rfl
          simp only [Act.put, List.setIfInBounds_toArray, List.set_cons_zero, List.set_cons_succ]
          refine wpAnyH_yes (i := 1) (d := 62) (v := ?_) rfl rfl (by kernel_rfl) (by kernel_rfl) (by kernel_rfl) (fun _ _ _ h => h) (by rfl) ?_ hS0 ?_
          rotate_left
          · intro w' hSw; go_simp <;> with_reducible rfl
          simp only [Act.put, List.setIfInBounds_toArray, List.set_cons_zero, List.set_cons_succ]
          refine wpAnyH_yes (i := 2) (d := 63) (v := ?_) rfl rfl (by kernel_rfl) (by kernel_rfl) (by kernel_rfl) (fun _ _ _ h => h) (by rfl) ?_ hS0 ?_
          rotate_left
          · intro w' hSw; go_simp <;> with_reducible rfl
          simp only [Act.put, List.setIfInBounds_toArray, List.set_cons_zero, List.set_cons_succ]
          refine wpAnyH_yes (i := 3) (d := 64) (v := ?_) rfl rfl (by kernel_rfl) (by kernel_rfl) (by kernel_rfl) (fun _ _ _ h => h) (by rfl) ?_ hS0 ?_
          rotate_left
          · intro w' hSw; go_simp <;> with_reducible rfl
          simp only [Act.put, List.setIfInBounds_toArray, List.set_cons_zero, List.set_cons_succ]
          refine wpAnyH_yes (i := 4) (d := 65) (v := ?_) rfl rfl (by kernel_rfl) (by kernel_rfl) (by kernel_rfl) (fun _ _ _ h => h) (by rfl) ?_ hS0 ?_
          rotate_left
          · intro w' hSw; go_simp <;> with_reducible rfl
          simp only [Act.put, List.setIfInBounds_toArray, List.set_cons_zero, List.set_cons_succ]
          refine wpAnyH_yes (i := 5) (d := 66) (v := ?_) rfl rfl (by kernel_rfl) (by kernel_rfl) (by kernel_rfl) (fun _ _ _ h => h) (by rfl) ?_ hS0 ?_
          rotate_left
          · intro w' hSw; go_simp <;> with_reducible rfl
          simp only [Act.put, List.setIfInBounds_toArray, List.set_cons_zero, List.set_cons_succ]
          refine wpAnyH_yes (i := 6) (d := 67) (v := ?_) rfl rfl (by kernel_rfl) (by kernel_rfl) (by kernel_rfl) (fun _ _ _ h => h) (by rfl) ?_ hS0 ?_
          rotate_left
          · intro w' hSw; go_simp <;> with_reducible rfl
          simp only [Act.put, List.setIfInBounds_toArray, List.set_cons_zero, List.set_cons_succ]
          refine wpAnyH_yes (i := 7) (d := 68) (v := ?_) rfl rfl (by kernel_rfl) (by kernel_rfl) (by kernel_rfl) (fun _ _ _ h => h) (by rfl) ?_ hS0 ?_
          rotate_left
          · intro w' hSw; go_simp <;> with_reducible rfl
          simp only [Act.put, List.setIfInBounds_toArray, List.set_cons_zero, List.set_cons_succ]
          refine wpAnyH_yes (i := 9) (d := 70) (v := ?_) rfl rfl (by kernel_rfl) (by kernel_rfl) (by kernel_rfl) (fun _ _ _ h => h) (by rfl) ?_ hS0 ?_
          rotate_left
          · intro w' hSw; obtain ⟨s0, s1, s2, s3, s4, s5, s6, _⟩ := blk7 (Blk.below hV hSw hV.lt); go_simp <;> with_reducible rfl
          simp only [Act.put, List.setIfInBounds_toArray, List.set_cons_zero, List.set_cons_succ]
          have hPn := HPN.out
          have hPb := HPB.out
          have hrP := HRP6.out
          generalize wr.drew = x0 at *
          refine wpAnyH_one (i := 8) (by kernel_rfl) rfl (by rfl) (fun Ka hKa => ?_)
          go_simp
          have hrP1 := hrP.below hS0
          with_reducible refine (fold_at Bp P np cp hPn (by omega) hPb x0 hrP1).mono ?_
          rintro e x1 ⟨⟨uK, ulo, uhi, uf, ut, uo, uno⟩, hall2, _, Y1, m1, f1, rfl, hl1, hc1, ho1, hb1⟩
          dsimp only at hl1 ho1
          have er := HPA.out.one hall2
          injection er with q1 q2 q3 q4 q5 q6 q7
          subst q1; subst q2; subst q3; subst q4; subst q5; subst q6; subst q7
          have hS1 := below_next hS0 (Nat.le_refl _) hb1
          have hrY1 := Gives.rd ho1
          clear hall2 ho1 hb1
          go_wp2_with fail
          refine hKa.out _ _ hS1 ?_
          clear hKa Ka
          have hdd : decide ((⟨rK, rlo, rhi, rf, rt, ro, rno⟩ : Sp) = ⟨rK, rlo, rhi, rf, rt, ro, rno⟩) = true := decide_eq_true rfl
          have hxr := HX6.out.below hS1
          have hld : rno.length = d := HLD.out
          have hm1 : m1 ≤ 100000 := by omega
          have hd1 : d ≤ 100000 := by omega
          refine wpAnyH_one (i := 10) (by kernel_rfl) rfl (by rfl) (fun Ka hKa => ?_)
          go_simp
          with_reducible refine (refSame_is rK rlo rhi rf rt ro Y1 m1 f1 rK rlo rhi rf rt ro X d e x1 rno rno hl1 hm1 hld hd1 hrY1 hxr true hdd).mono ?_
          rintro e' x2 ⟨rfl, hg2⟩
          have hS2 := below_next hS1 (Nat.le_refl _) hg2.below
          clear hdd hxr hrY1 hl1 hg2
          go_wp2_with fail
          refine hKa.out _ _ hS2 ?_
          clear hKa Ka
          refine wpAnyH_yes (i := 11) (d := 72) (v := ?_) rfl rfl (by kernel_rfl) (by kernel_rfl) (by kernel_rfl) (fun _ _ _ h => h) (by rfl) ?_ hS2 ?_
          rotate_left
          · intro w' hSw; go_simp <;> with_reducible rfl
          simp only [Act.put, List.setIfInBounds_toArray, List.set_cons_zero, List.set_cons_succ]
          refine wpAnyH_yes (i := 12) (d := 73) (v := ?_) rfl rfl (by kernel_rfl) (by kernel_rfl) (by kernel_rfl) (fun _ _ _ h => h) (by rfl) ?_ hS2 ?_
          rotate_left
          · intro w' hSw; go_simp <;> with_reducible rfl
          simp only [Act.put, List.setIfInBounds_toArray, List.set_cons_zero, List.set_cons_succ]
          refine wpAnyH_yes (i := 13) (d := 74) (v := ?_) rfl rfl (by kernel_rfl) (by kernel_rfl) (by kernel_rfl) (fun _ _ _ h => h) (by rfl) ?_ hS2 ?_
          rotate_left
          · intro w' hSw; go_simp <;> with_reducible rfl
          simp only [Act.put, List.setIfInBounds_toArray, List.set_cons_zero, List.set_cons_succ]
          refine wpAnyH_yes (i := 14) (d := 75) (v := ?_) rfl rfl (by kernel_rfl) (by kernel_rfl) (by kernel_rfl) (fun _ _ _ h => h) (by rfl) ?_ hS2 ?_
          rotate_left
          · intro w' hSw; go_simp <;> with_reducible rfl
          simp only [Act.put, List.setIfInBounds_toArray, List.set_cons_zero, List.set_cons_succ]
          refine wpAnyH_yes (i := 17) (d := 78) (v := ?_) rfl rfl (by kernel_rfl) (by kernel_rfl) (by kernel_rfl) (fun _ _ _ h => h) (by rfl) ?_ hS2 ?_
          rotate_left
          · intro w' hSw; go_simp <;> with_reducible rfl
          simp only [Act.put, List.setIfInBounds_toArray, List.set_cons_zero, List.set_cons_succ]
          refine wpAnyH_one (i := 15) (by kernel_rfl) rfl (by rfl) (fun Ka hKa => ?_)
          go_simp
          have hrP3 := hrP.below hS2
          with_reducible refine (fold_at Bp P np cp hPn (by omega) hPb x2 hrP3).mono ?_
          rintro e x3 ⟨⟨uK, ulo, uhi, uf, ut, uo, uno⟩, hall2, _, Y3, m3, f3, rfl, hl3, hc3, ho3, hb3⟩
          dsimp only at hl3 ho3
          have er := HPA.out.one hall2
          injection er with q1 q2 q3 q4 q5 q6 q7
          subst q1; subst q2; subst q3; subst q4; subst q5; subst q6; subst q7
          have hS3 := below_next hS2 (Nat.le_refl _) hb3
          have hrY3 := Gives.rd ho3
          clear hall2 ho3 hb3
          go_wp2_with fail
          refine hKa.out _ _ hS3 ?_
          clear hKa Ka
          have hcan := HCAN.out
          have hprP := HPP.out
          have hm3 : m3 ≤ 10000 := by omega
          have hnm16 : nm.length ≤ 9223372036854775807 := hnm
          refine wpAnyH_one (i := 16) (by kernel_rfl) rfl (by rfl) (fun Ka hKa => ?_)
          go_simp
          with_reducible refine (preds_is nm rK rlo rhi rf rt ro rno hcan Y3 m3 f3 x3 hl3 hm3 hrY3 hnm16 P hprP).mono ?_
          rintro e' x4 ⟨v4, rfl, ho4, hb4⟩
          obtain ⟨B4, c4, rfl, hc4, hr4⟩ := OwnK.form ho4 hPn
          have hS4 := below_next hS3 (Nat.le_refl _) hb4
          have hrP4 := hrP.below hS4
          have hnp5 : np ≤ 100000 := by omega
          clear ho4 hb4 hrY3 hl3
          go_wp2_with fail
          refine hKa.out _ _ hS4 ?_
          clear hKa Ka
          have hde4 : decide (P = P) = true := decide_eq_true rfl
          refine wpAnyH_one (i := 18) (by kernel_rfl) rfl (by rfl) (fun Ka hKa => ?_)
          go_simp
          with_reducible refine (samePs_at B4 P np c4 hPn hnp5 Bp P np cp hPn hnp5 x4 hr4 hrP4 true hde4).mono ?_
          rintro e' x5 ⟨rfl, hg5⟩
          have hS5 := below_next hS4 (Nat.le_refl _) hg5.below
          clear hde4
          go_wp2_with fail
          refine hKa.out _ _ hS5 ?_
          clear hKa Ka
          refine wpAnyH_yes (i := 19) (d := 80) (v := ?_) rfl rfl (by kernel_rfl) (by kernel_rfl) (by kernel_rfl) (fun _ _ _ h => h) (by rfl) ?_ hS5 ?_
          rotate_left
          · intro w' hSw; go_simp <;> with_reducible rfl
          simp only [Act.put, List.setIfInBounds_toArray, List.set_cons_zero, List.set_cons_succ]
          refine wpAnyH_yes (i := 20) (d := 4) (v := ?_) rfl rfl (by kernel_rfl) (by kernel_rfl) (by kernel_rfl) (fun _ _ _ h => h) (by rfl) ?_ hS5 ?_
          rotate_left
          · intro w' hSw; go_simp <;> with_reducible rfl
          simp only [Act.put, List.setIfInBounds_toArray, List.set_cons_zero, List.set_cons_succ]
          refine wpAnyH_done (by kernel_rfl) ?_ _
          go_wp2_with fail
          go_ret
          exact ⟨rfl, below_next HB6.out (Nat.le_refl _) hS5⟩

/-! ### The row's step. -/
namespace spanPreds
theorem own : ownKnob Try.prog.godebug = none := by kernel_rfl
theorem laidOut : laidOutB Try.prog = true := by kernel_rfl
set_option linter.unusedVariables false in
set_option maxRecDepth 100000 in
theorem lifted (os : Os) (started : os.Started) (H : Type) (enc : TypeId × Value → H) :
    ReturnsInHanded {} Try.checked os 7 .any (Rows.spanPredsSpec.pre6 enc Try.prog Try.f7 Rows.spanPredsRow.domain false) (Rows.spanPredsSpec.post enc Try.prog Try.f7 false true false false) := by
  refine returnsInHanded_of_change_sized (C := Try.checked) own started (by kernel_rfl) Try.func7
    (ChangeSpec.witness6 (enc := enc) (C := Try.checked) false ⟨#[], #[.slice none 0 0, .string ⟨#[]⟩], []⟩ 8 (by kernel_rfl) (by kernel_rfl) (by kernel_rfl) (by kernel_rfl)) ?_
  intro W base args ds gs before hval0 hW hcnd hsz0 _
  have hval : ∀ (j : Nat) t v, Try.f7.params[j]? = some t → args[j]? = some v → Value.okWide Try.prog W .any base t v := hval0
  have hsz : (DataW.weightsEach Try.prog (Try.f7.params.toList ++ Rows.spanPredsSpec.plain.varTypes Try.prog) (ds ++ gs)).all (· ≤ reachBytes) = true := hsz0
  have hW' := hW
  obtain ⟨p, q, hA0, hV, rfl, hfz, hnd⟩ := hW
  have hA : DataW.TrodAll enc Try.prog W 0 (fun _ => true) true Try.f7.params.toList args.toList ds p := hA0
  rw [Try.params7] at hA hval hsz
  obtain ⟨v0, vs0, d0, ds0, p0, q0, hargs, rfl, rfl, h0, r0⟩ := trodAll_cons hA
  obtain ⟨v1, vs1, d1, ds1, p1, q1, rfl, rfl, rfl, h1, r1⟩ := trodAll_cons r0
  obtain ⟨rfl, rfl, rfl⟩ := trodAll_nil r1
  obtain rfl : args = #[v0, v1] := by cases args; simp_all
  obtain ⟨rfl, rfl⟩ := trodVars_none hV
  obtain ⟨a0, len0, cap0, rfl⟩ := okWide_slice Try.underlying22 (hval 0 22 v0 rfl rfl)
  have k0 := h0
  have lt0 : ∀ x ∈ p0, x.block < W.heap.size := by obtain ⟨m, hm⟩ := k0; exact DataW.trod_lt m _ _ _ hm
  obtain ⟨es0, hl0, hc0, hm0, rd0, hw0⟩ := open_preds_of Try.underlying22 Try.underlying40 (by kernel_rfl) ⟨rfl, rfl, by kernel_rfl⟩ ⟨rfl, rfl, by kernel_rfl⟩ ⟨rfl, rfl, by kernel_rfl⟩ Try.underlying9 Try.underlying3 Try.underlying24 ⟨rfl, rfl, by kernel_rfl⟩ ⟨rfl, rfl, by kernel_rfl⟩ ⟨rfl, rfl, by kernel_rfl⟩ Try.underlying3 Try.underlying3 Try.underlying9 k0
  obtain ⟨⟨⟨a1⟩⟩, rfl, rfl, rfl, w1⟩ := Go.ChangeMaps.open_string Try.underlying9 (hval 1 9 v1 rfl rfl) h1
  clear hA0 hval0
  refine (walk_SpanPreds W a0 es0 len0 cap0 hl0 hc0 hm0 rd0 hw0 a1 w1).mono fun e W' ⟨he, bel⟩ => ?_
  subst he
  exact ⟨_, rfl, _, _, _, [], _, [], hW', trodAll_mk1 (shut_bool Try.underlying4 _), (trodAll_cons_mk (Below.trod laidOut (by kernel_rfl) (of_decide_eq_true (by kernel_rfl)) k0 bel lt0) (trodAll_cons_mk (Go.ChangeMaps.shut_string Try.underlying9 w1) trodAll_mk0)), rfl, bel.frame _, fun h => by cases h⟩
theorem over : Rows.spanPredsRow.holds Try.pinned (OpenSpec.ofChange Rows.spanPredsSpec) :=
  OpenClaim.holds_of_wide 7 Try.f7 rfl rfl rfl rfl rfl rfl rfl ⟨rfl, rfl, rfl, rfl, rfl⟩ rfl rfl rfl rfl rfl (by kernel_rfl) Try.func7 (by kernel_rfl)
    (of_decide_eq_true (by kernel_rfl)) (by unfold Func.isWrapper; first | (rw [if_pos (by decide +kernel)]; kernel_rfl) | (rw [if_neg (by decide +kernel)]; exact ⟨rfl, rfl⟩))
    (fun os started H enc _ => lifted os started H enc)
end spanPreds
/-- THE STATEMENT. -/
theorem spanPreds_holds : Rows.SpanPredsSaid := spanPreds.over
#print axioms spanPreds_holds
end Go.Proofs.Ytcgmbgfbhdimeaa
