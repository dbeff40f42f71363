/- Contracts of the program and of the document (RCov, RAbv), each used further on. -/
import Derived.Test.YtckabmlilbkmbaaD2
import Derived.Test.YtckabmlilbkmbaaE5
import Derived.Test.YtckabmlilbkmbaaF3
import Derived.Test.YtckabmlilbkmbaaP1
namespace Go.Proofs.Ytckabmlilbkmbaa
open Go.RowKit Go.Sort Spans Op
theorem may_sound {f : List Pr} : mayE f = 0 ↔ Fil.Sound f := by
  unfold mayE Fil.Sound
  by_cases h : 24 < f.length
  · rw [if_pos h]; constructor
    · intro k; cases k
    · intro k; omega
  · rw [if_neg h]
    by_cases h2 : Fil.AllRight f
    · rw [if_pos h2]; exact ⟨fun _ => ⟨by omega, h2⟩, fun _ => rfl⟩
    · rw [if_neg h2]; constructor
      · intro k; cases k
      · intro k; exact absurd k.2 h2
set_option maxRecDepth 100000 in
set_option maxHeartbeats 4000000 in
theorem rcovers_at (A : Option Addr) (f : List Pr) (n c : Nat) (hn : f.length = n) (hm : n ≤ 1000) (hl : PBd f) (A' : Option Addr) (g : List Pr) (n' c' : Nat) (hn' : g.length = n') (hm' : n' ≤ 1000) (hl' : PBd g) (w : World) (hr : RdQ w A f) (hr' : RdQ w A' g) :
    Calls Try.prog 26 #[.slice A n c, .slice A' n' c'] w (Tells w (Fil.Cov f g)) := by
  have HN := Lib.hid hn
  have HLL := Lib.hid hl
  have HR := Lib.hid hr
  have HN' := Lib.hid hn'
  have HLL' := Lib.hid hl'
  have HR' := Lib.hid hr'
  obtain ⟨e1, h1⟩ : ∃ er, mayE f = er := ⟨_, rfl⟩
  have HE1 := Lib.hid h1
  obtain ⟨e2, h2⟩ : ∃ er, mayE g = er := ⟨_, rfl⟩
  have HE2 := Lib.hid h2
  obtain ⟨S, hS⟩ := Fil.spans_ex (pbd_bd hl)
  have HS := Lib.hid hS
  obtain ⟨T, hT⟩ := Fil.spans_ex (pbd_bd hl')
  have HT := Lib.hid hT
  obtain ⟨q, hq⟩ : ∃ q, decide (Fil.Void g T) = q := ⟨_, rfl⟩
  have HQ := Lib.hid hq
  have HX : Hid (Fil.Cov f g ↔ e1 = 0 ∧ e2 = 0 ∧ (q = true ∨ ∀ n, Fil.Asked f n → Fil.Asked g n ∧ inn (T n) (S n) = true)) := by
    show _ ↔ _
    rw [Fil.cov_with hS hT, ← may_sound, ← may_sound, h1, h2, ← hq, decide_eq_true_iff]
  clear hn hl hr hn' hl' hr' h1 h2 hS hT hq
  go_enter Try.func26, Try.ntmps26
  go_wp2_with fail
  refine (rmay_at A f n c HN.out (by omega) HLL.out w HR.out e1 HE1.out).mono ?_
  rintro e w1 ⟨rfl, hb⟩
  have BB := Lib.hid hb
  clear hb
  go_wp2_with fail
  refine (rmay_at A' g n' c' HN'.out (by omega) HLL'.out w1 (RdK.below HR'.out BB.out) e2 HE2.out).mono ?_
  rintro e w2 ⟨rfl, hb⟩
  replace BB := Lib.hid (below_next BB.out (Nat.le_refl _) hb)
  clear hb
  by_cases z1 : e1 = 0
  · have v1 : (e1 != 0) = false := by simpa using z1
    by_cases z2 : e2 = 0
    · have v2 : (e2 != 0) = false := by simpa using z2
      have hn24 : n ≤ 24 := by have := (may_sound.1 (HE1.out.trans z1)).1; rw [HN.out] at this; exact this
      have hm24 : n' ≤ 24 := by have := (may_sound.1 (HE2.out.trans z2)).1; rw [HN'.out] at this; exact this
      go_wp2_with fail
      refine (rvoid_at A' g n' c' HN'.out (by omega) HLL'.out _ (RdK.below HR'.out BB.out) T HT.out q HQ.out).mono ?_
      rintro e w3 ⟨rfl, hb⟩
      replace BB := Lib.hid (below_next BB.out (Nat.le_refl _) hb)
      clear hb
      cases q with
      | true =>
        go_wp2_with fail
        go_ret
        exact tells_yes (HX.out.2 ⟨z1, z2, .inl (by first | rfl | trivial)⟩) BB.out
      | false =>
        have HX2 : Hid (Fil.Cov f g ↔ ∀ n, Fil.Asked f n → Fil.Asked g n ∧ inn (T n) (S n) = true) := HX.out.trans ⟨fun h => h.2.2.resolve_left (by simp), fun h => ⟨z1, z2, .inr h⟩⟩
        clear z1 z2 v1 v2 HX
        go_wp2_with fail
        refine (rnames_at A f n c HN.out (by omega) (fun p hp => by have := (HLL.out p hp).1; omega) _ (RdK.below HR.out BB.out)).mono ?_
        rintro e w4 ⟨L, B, m, d, rfl, hL, hlm, hmn, hmd, hoL, hb⟩
        have HL := Lib.hid hL
        have HM := Lib.hid hlm
        have RL := Lib.hid (rdz_own hoL)
        replace BB := Lib.hid (below_next BB.out (Nat.le_refl _) hb)
        clear hL hlm hoL hb
        go_wp2_with fail
        go_loopg [8] m (fun gg s8 wr => ∃ k : Nat, k ≤ m ∧ m - k ≤ gg ∧ s8 = .int .i64 (k : Int) ∧ Hid (Below w4.heap.size w4 wr) ∧ Hid (∀ j (hj : j < L.length), j < k → Fil.Asked g L[j] ∧ inn (T L[j]) (S L[j]) = true))
        case atStart => exact ⟨0, Nat.zero_le _, by omega, rfl, Below.refl _ _, fun j hj h => absurd h (by omega)⟩
        case round =>
          obtain ⟨k, hk, hgg, rfl, HB, HA⟩ := hrel
          by_cases hlt : k < m
          · have hk' : k < L.length := by rw [HM.out]; exact hlt
            obtain ⟨gb, ob, hB, hgb, b0⟩ := RdTx.at1 RL.out hk'
            subst hB
            obtain ⟨nm, hnm⟩ : ∃ x, L[k] = x := ⟨_, rfl⟩
            have HNM := Lib.hid hnm
            rw [hnm] at b0
            clear hnm
            have w5 : (k : Int) < (m : Int) := by omega
            have HK0 : Hid (∀ w', Below w4.heap.size w4 w' → w'.cell? ⟨gb, ob + k, none⟩ = some (.string ⟨nm.toArray⟩)) := fun w' hb => (hb.cell (p := ⟨gb, ob + k, none⟩) hgb).trans b0
            clear b0 hgb
            obtain ⟨wo, rfl⟩ : ∃ wo : World, wo = wr := ⟨_, rfl⟩
            go_wp2_with fail
            go_loopg [9, 10] n' (fun g2 s9 s10 wy => ∃ (u : Nat) (b : Bool), u + g2 = n' ∧ s10 = .int .i64 (u : Int) ∧ s9 = .bool b ∧ Hid (Below wo.heap.size wo wy) ∧ Hid (TellB b (∃ p ∈ g.take u, p.n = nm)))
            case atStart => exact ⟨0, false, by omega, rfl, rfl, Below.refl _ _, by show TellB _ _; unfold TellB; simp⟩
            case round =>
              obtain ⟨u, b, hug, rfl, rfl, HG, HP⟩ := hrel
              have B2 := Lib.hid (below_next HB.out (Nat.le_refl _) HG.out)
              have z0 := gx_cell (HK0.out _ B2.out)
              cases gk with
              | succ gk =>
                have hu' : u < g.length := by rw [HN'.out]; omega
                obtain ⟨g9, o9, hA9, hg9, y0, _, _, _, _⟩ := RdQ.at5 (RdK.below HR'.out (below_next BB.out (Nat.le_refl _) B2.out)) hu'
                subst hA9
                have y0 := gx_cell y0
                have hi1 : (u : Int) < (n' : Int) := by omega
                cases b with
                | true =>
                  have HP2 : Hid (TellB true (∃ p ∈ g.take (u + 1), p.n = nm)) := by
                    refine ⟨fun _ => ?_, fun _ => rfl⟩
                    obtain ⟨p, hp, e⟩ := HP.out.1 rfl
                    exact ⟨p, by rw [List.take_succ_eq_append_getElem hu']; exact List.mem_append_left _ hp, e⟩
                  go_wp2_with fail
                  (refine qb_region mixedT (by kernel_rfl) ?_; (repeat (refine hq_step (fun K hK => ?_); go_simp; first | (refine hK _ ?_; clear hK K) | (apply Exists.intro; refine ⟨fun _ => ?_, hK _ ?_⟩; (fail); clear hK K))); refine hq_nil ?_; intro _ hw'; obtain ⟨⟨nq, osq⟩, hw''⟩ := hw'; subst hw'')
                  have hb := below_gx wr nq osq
                  have HG2 := Lib.hid (HG.out.trans (hb.mono HG.out.size))
                  go_wp2_with fail
                  go_roundg gk
                  case measure => omega
                  case rel => exact ⟨u + 1, true, by omega, by go_num, rfl, HG2, HP2⟩
                | false =>
                  obtain ⟨xn, hxn⟩ : ∃ x, g[u].n = x := ⟨_, rfl⟩
                  rw [hxn] at y0
                  obtain ⟨z, hz⟩ : ∃ z, decide (xn = nm) = z := ⟨_, rfl⟩
                  have HP2 : Hid (TellB z (∃ p ∈ g.take (u + 1), p.n = nm)) := by
                    show _ ↔ _
                    rw [List.take_succ_eq_append_getElem hu', ← hz, decide_eq_true_iff, ← hxn]
                    constructor
                    · intro e; exact ⟨g[u], List.mem_append_right _ (List.mem_singleton_self _), e⟩
                    · rintro ⟨p, hp, e⟩
                      rcases List.mem_append.1 hp with hp | hp
                      · have := HP.out.2 ⟨p, hp, e⟩; cases this
                      · simp at hp; rw [← hp]; exact e
                  have hzz : (xn == nm) = z := by rw [← hz, Bool.eq_iff_iff, beq_iff_eq, decide_eq_true_iff]
                  go_wp2_with fail
                  (refine qb_region mixedT (by kernel_rfl) ?_; (repeat (refine hq_step (fun K hK => ?_); go_simp; first | (refine hK _ ?_; clear hK K) | (apply Exists.intro; refine ⟨fun _ => ?_, hK _ ?_⟩; (fail); clear hK K))); refine hq_nil ?_; intro _ hw'; obtain ⟨⟨nq, osq⟩, hw''⟩ := hw'; subst hw'')
                  have hb := below_gx wr nq osq
                  have HG2 := Lib.hid (HG.out.trans (hb.mono HG.out.size))
                  go_wp2_with fail
                  go_roundg gk
                  case measure => omega
                  case rel => exact ⟨u + 1, z, by omega, by go_num, rfl, HG2, HP2⟩
              | zero =>
                obtain rfl : n' = u := by omega
                have HP3 : Hid (TellB b (Fil.Asked g nm)) := by
                  have h1 := HP.out
                  rw [List.take_of_length_le (by rw [HN'.out]; exact Nat.le_refl _)] at h1
                  exact h1
                clear HP
                cases b with
                | false =>
                  have HNC : Hid (¬ Fil.Cov f g) := fun h => by
                    have := HP3.out.2 (HX2.out.1 h nm (HNM.out ▸ names_mem HL.out hk')).1
                    cases this
                  go_wp2_with fail
                  (refine qb_region mixedT (by kernel_rfl) ?_; (repeat (refine hq_step (fun K hK => ?_); go_simp; first | (refine hK _ ?_; clear hK K) | (apply Exists.intro; refine ⟨fun _ => ?_, hK _ ?_⟩; (fail); clear hK K))); refine hq_nil ?_; intro _ hw'; obtain ⟨⟨nq, osq⟩, hw''⟩ := hw'; subst hw'')
                  have hb := below_gx wr nq osq
                  have B3 := Lib.hid (below_next BB.out (Nat.le_refl _) (below_next B2.out (Nat.le_refl _) hb))
                  go_wp2_with fail
                  go_ret
                  exact tells_no HNC.out B3.out
                | true =>
                  have HAG : Hid (Fil.Asked g nm) := HP3.out.1 rfl
                  have HAF : Hid (Fil.Asked f nm) := HNM.out ▸ names_mem HL.out hk'
                  clear HP3 z0
                  have hS0 := HK0.out wr.drew B2.out.drew
                  go_wp2_with fail
                  refine wp_region_held_drew (S := fun w' => w'.cell? ⟨gb, ob + k, none⟩ = some (.string ⟨nm.toArray⟩)) (by kernel_rfl) hS0 (fun _ => ?_)
                  refine wpAnyH_yes (i := 0) (d := 50) (v := ?_) rfl rfl (by kernel_rfl) (by kernel_rfl) (by kernel_rfl) (fun _ _ _ h => h) (by rfl) ?_ hS0 ?_
                  rotate_left
                  · intro w' hSw; skip; go_simp <;> with_reducible rfl
                  simp only [Act.put, List.setIfInBounds_toArray, List.set_cons_zero, List.set_cons_succ]
                  refine wpAnyH_yes (i := 1) (d := 51) (v := ?_) rfl rfl (by kernel_rfl) (by kernel_rfl) (by kernel_rfl) (fun _ _ _ h => h) (by rfl) ?_ hS0 ?_
                  rotate_left
                  · intro w' hSw; skip; go_simp <;> with_reducible rfl
                  simp only [Act.put, List.setIfInBounds_toArray, List.set_cons_zero, List.set_cons_succ]
                  refine wpAnyH_yes (i := 2) (d := 52) (v := ?_) rfl rfl (by kernel_rfl) (by kernel_rfl) (by kernel_rfl) (fun _ _ _ h => h) (by rfl) ?_ hS0 ?_
                  rotate_left
                  · intro w' hSw; skip; go_simp <;> with_reducible rfl
                  simp only [Act.put, List.setIfInBounds_toArray, List.set_cons_zero, List.set_cons_succ]
                  refine wpAnyH_yes (i := 3) (d := 53) (v := ?_) rfl rfl (by kernel_rfl) (by kernel_rfl) (by kernel_rfl) (fun _ _ _ h => h) (by rfl) ?_ hS0 ?_
                  rotate_left
                  · intro w' hSw; skip; go_simp <;> with_reducible rfl
                  simp only [Act.put, List.setIfInBounds_toArray, List.set_cons_zero, List.set_cons_succ]
                  refine wpAnyH_yes (i := 4) (d := 54) (v := ?_) rfl rfl (by kernel_rfl) (by kernel_rfl) (by kernel_rfl) (fun _ _ _ h => h) (by rfl) ?_ hS0 ?_
                  rotate_left
                  · intro w' hSw; skip; go_simp <;> with_reducible rfl
                  simp only [Act.put, List.setIfInBounds_toArray, List.set_cons_zero, List.set_cons_succ]
                  refine wpAnyH_yes (i := 5) (d := 55) (v := ?_) rfl rfl (by kernel_rfl) (by kernel_rfl) (by kernel_rfl) (fun _ _ _ h => h) (by rfl) ?_ hS0 ?_
                  rotate_left
                  · intro w' hSw; skip; go_simp <;> with_reducible rfl
                  simp only [Act.put, List.setIfInBounds_toArray, List.set_cons_zero, List.set_cons_succ]
                  refine wpAnyH_yes (i := 6) (d := 56) (v := ?_) rfl rfl (by kernel_rfl) (by kernel_rfl) (by kernel_rfl) (fun _ _ _ h => h) (by rfl) ?_ hS0 ?_
                  rotate_left
                  · intro w' hSw; skip; go_simp <;> with_reducible rfl
                  simp only [Act.put, List.setIfInBounds_toArray, List.set_cons_zero, List.set_cons_succ]
                  refine wpAnyH_yes (i := 7) (d := 57) (v := ?_) rfl rfl (by kernel_rfl) (by kernel_rfl) (by kernel_rfl) (fun _ _ _ h => h) (by rfl) ?_ hS0 ?_
                  rotate_left
                  · intro w' hSw; skip; go_simp <;> with_reducible rfl
                  simp only [Act.put, List.setIfInBounds_toArray, List.set_cons_zero, List.set_cons_succ]
                  refine wpAnyH_yes (i := 9) (d := 59) (v := ?_) rfl rfl (by kernel_rfl) (by kernel_rfl) (by kernel_rfl) (fun _ _ _ h => h) (by rfl) ?_ hS0 ?_
                  rotate_left
                  · intro w' hSw; skip; go_simp <;> with_reducible rfl
                  simp only [Act.put, List.setIfInBounds_toArray, List.set_cons_zero, List.set_cons_succ]
                  refine wpAnyH_yes (i := 10) (d := 60) (v := ?_) rfl rfl (by kernel_rfl) (by kernel_rfl) (by kernel_rfl) (fun _ _ _ h => h) (by rfl) ?_ hS0 ?_
                  rotate_left
                  · intro w' hSw; skip; go_simp <;> with_reducible rfl
                  simp only [Act.put, List.setIfInBounds_toArray, List.set_cons_zero, List.set_cons_succ]
                  refine wpAnyH_yes (i := 11) (d := 61) (v := ?_) rfl rfl (by kernel_rfl) (by kernel_rfl) (by kernel_rfl) (fun _ _ _ h => h) (by rfl) ?_ hS0 ?_
                  rotate_left
                  · intro w' hSw; skip; go_simp <;> with_reducible rfl
                  simp only [Act.put, List.setIfInBounds_toArray, List.set_cons_zero, List.set_cons_succ]
                  refine wpAnyH_yes (i := 12) (d := 62) (v := ?_) rfl rfl (by kernel_rfl) (by kernel_rfl) (by kernel_rfl) (fun _ _ _ h => h) (by rfl) ?_ hS0 ?_
                  rotate_left
                  · intro w' hSw; skip; go_simp <;> with_reducible rfl
                  simp only [Act.put, List.setIfInBounds_toArray, List.set_cons_zero, List.set_cons_succ]
                  refine wpAnyH_yes (i := 13) (d := 63) (v := ?_) rfl rfl (by kernel_rfl) (by kernel_rfl) (by kernel_rfl) (fun _ _ _ h => h) (by rfl) ?_ hS0 ?_
                  rotate_left
                  · intro w' hSw; skip; go_simp <;> with_reducible rfl
                  simp only [Act.put, List.setIfInBounds_toArray, List.set_cons_zero, List.set_cons_succ]
                  have HB1 := Lib.hid B2.out.drew
                  clear B2 hS0
                  generalize wr.drew = x4 at *
                  refine wpAnyH_one (i := 8) (by kernel_rfl) rfl (by rfl) (fun K hK => ?_)
                  go_simp
                  have hlx : ∀ p ∈ g, p.n.length ≤ 100 ∧ p.t.length ≤ 100 ∧ -9223372036854775808 ≤ p.i ∧ p.i ≤ 9223372036854775807 := HLL'.out
                  have hnx := HN'.out
                  with_reducible refine (rspanOf_at A' g n' c' nm hnx (by omega) hlx x4 (RdK.below HR'.out (below_next BB.out (Nat.le_refl _) HB1.out))).mono ?_
                  rintro e x5 ⟨⟨r1K, r1lo, r1hi, r1f, r1t, r1o, r1no⟩, hall, hrl, A1, n1, c1, rfl, hl7, hc7, ho7, hb7⟩
                  dsimp only at hrl hl7 ho7
                  have HS1 : Hid (T nm = ⟨r1K, r1lo, r1hi, r1f, r1t, r1o, r1no⟩) := (HT.out nm HAG.out).one hall
                  have HC1 := Lib.hid hall.1
                  have HL1 := Lib.hid hl7
                  have hr7 := rdk_own' ho7
                  have R1 := Lib.hid hr7
                  have hn1 : n1 ≤ 100 := by omega
                  replace HB1 := Lib.hid (below_next HB1.out (Nat.le_refl _) hb7)
                  clear hall hl7 ho7 hr7 hlx hnx hrl
                  clear hb7
                  go_wp2_with fail
                  refine hK.out _ _ (HK0.out _ HB1.out) ?_
                  clear hK
                  refine wpAnyH_one (i := 14) (by kernel_rfl) rfl (by rfl) (fun K hK => ?_)
                  go_simp
                  have hlx : ∀ p ∈ f, p.n.length ≤ 100 ∧ p.t.length ≤ 100 ∧ -9223372036854775808 ≤ p.i ∧ p.i ≤ 9223372036854775807 := HLL.out
                  have hnx := HN.out
                  with_reducible refine (rspanOf_at A f n c nm hnx (by omega) hlx x5 (RdK.below HR.out (below_next BB.out (Nat.le_refl _) HB1.out))).mono ?_
                  rintro e x6 ⟨⟨r2K, r2lo, r2hi, r2f, r2t, r2o, r2no⟩, hall, hrl, A2, n2, c2, rfl, hl7, hc7, ho7, hb7⟩
                  dsimp only at hrl hl7 ho7
                  have HS2 : Hid (S nm = ⟨r2K, r2lo, r2hi, r2f, r2t, r2o, r2no⟩) := (HS.out nm HAF.out).one hall
                  have HC2 := Lib.hid hall.1
                  have HL2 := Lib.hid hl7
                  have hr7 := rdk_own' ho7
                  have R2 := Lib.hid hr7
                  have hn2 : n2 ≤ 100 := by omega
                  replace HB1 := Lib.hid (below_next HB1.out (Nat.le_refl _) hb7)
                  clear hall hl7 ho7 hr7 hlx hnx hrl
                  replace R1 := Lib.hid (RdK.below R1.out hb7)
                  clear hb7
                  go_wp2_with fail
                  refine hK.out _ _ (HK0.out _ HB1.out) ?_
                  clear hK
                  refine wpAnyH_one (i := 15) (by kernel_rfl) rfl (by rfl) (fun K hK => ?_)
                  go_simp
                  obtain ⟨y, hy⟩ : ∃ y, inn ⟨r1K, r1lo, r1hi, r1f, r1t, r1o, r1no⟩ ⟨r2K, r2lo, r2hi, r2f, r2t, r2o, r2no⟩ = y := ⟨_, rfl⟩
                  have HY := Lib.hid hy
                  have hl1 := HL1.out
                  have hl2 := HL2.out
                  with_reducible refine (rin_at ⟨r1K, r1lo, r1hi, r1f, r1t, r1o, r1no⟩ ⟨r2K, r2lo, r2hi, r2f, r2t, r2o, r2no⟩ HC1.out HC2.out A1 n1 c1 A2 n2 c2 x6 hl1 (by omega) hl2 (by omega) R1.out R2.out y hy).mono ?_
                  rintro e x7 ⟨rfl, hb7⟩
                  have HB2 := Lib.hid (below_next HB1.out (Nat.le_refl _) hb7.below)
                  clear hb7 hy hl1 hl2
                  go_wp2_with fail
                  refine hK.out _ _ (HK0.out _ HB2.out) ?_
                  clear hK
                  refine wpAnyH_yes (i := 16) (d := 66) (v := ?_) rfl rfl (by kernel_rfl) (by kernel_rfl) (by kernel_rfl) (fun _ _ _ h => h) (by rfl) ?_ (HK0.out _ HB2.out) ?_
                  rotate_left
                  · intro w' hSw; skip; go_simp <;> with_reducible rfl
                  simp only [Act.put, List.setIfInBounds_toArray, List.set_cons_zero, List.set_cons_succ]
                  refine wpAnyH_yes (i := 17) (d := 67) (v := ?_) rfl rfl (by kernel_rfl) (by kernel_rfl) (by kernel_rfl) (fun _ _ _ h => h) (by rfl) ?_ (HK0.out _ HB2.out) ?_
                  rotate_left
                  · intro w' hSw; skip; go_simp <;> with_reducible rfl
                  simp only [Act.put, List.setIfInBounds_toArray, List.set_cons_zero, List.set_cons_succ]
                  refine wpAnyH_done (by kernel_rfl) ?_ _
                  clear R1 R2 HB1
                  cases y with
                  | false =>
                    have HNC : Hid (¬ Fil.Cov f g) := fun h => by
                      have := (HX2.out.1 h nm HAF.out).2
                      rw [HS1.out, HS2.out, HY.out] at this
                      cases this
                    go_wp2_with fail
                    go_ret
                    exact tells_no HNC.out (below_next BB.out (Nat.le_refl _) HB2.out)
                  | true =>
                    have HA2 : Hid (∀ j (hj : j < L.length), j < k + 1 → Fil.Asked g L[j] ∧ inn (T L[j]) (S L[j]) = true) := fun j hj h => by
                      rcases Nat.lt_or_ge j k with e | e
                      · exact HA.out j hj e
                      · obtain rfl : j = k := by omega
                        rw [HNM.out, HS1.out, HS2.out]; exact ⟨HAG.out, HY.out⟩
                    go_wp2_with fail
                    go_roundg (m - (k + 1))
                    case measure => omega
                    case rel => exact ⟨k + 1, by omega, Nat.le_refl _, by go_num, HB2, HA2⟩
          · have hkm : k = m := by omega
            have HV : Hid (Fil.Cov f g) := HX2.out.2 fun x hx => by
              obtain ⟨j, hj, rfl⟩ := List.getElem_of_mem ((HL.out.2 x).2 hx)
              exact HA.out j hj (by rw [HM.out] at hj; omega)
            clear hkm
            go_wp2_with fail
            go_ret
            exact tells_yes HV.out (below_next BB.out (Nat.le_refl _) HB.out)
    · have v2 : (e2 != 0) = true := by simpa using z2
      go_wp2_with fail
      go_ret
      exact tells_no (fun h => z2 (HX.out.1 h).2.1) BB.out
  · have v1 : (e1 != 0) = true := by simpa using z1
    go_wp2_with fail
    go_ret
    exact tells_no (fun h => z1 (HX.out.1 h).1) BB.out
end Go.Proofs.Ytckabmlilbkmbaa
namespace Go.Proofs.Ytckabmlilbkmbaa
open Go.RowKit Go.Sort Spans Tb
set_option maxRecDepth 100000 in
set_option maxHeartbeats 1000000 in
theorem rabove_at (x y : Ex) (hx : x.f.length = x.n) (hmx : x.n ≤ 1000) (hpx : PBd x.f) (hy : y.f.length = y.n) (hmy : y.n ≤ 1000) (hpy : PBd y.f) (w : World) (hr : RdQ w x.A x.f) (hr' : RdQ w y.A y.f) (q : Bool) (hq : q = true ↔ Po.Abv x.id x.f y.id y.f) :
    Calls Try.prog 13 #[exV x, exV y] w fun e w' => e = .returned (.bool q) ∧ Below w.heap.size w w' := by
  obtain ⟨xi, xr, xA, xn, xc, xf⟩ := x
  obtain ⟨yi, yr, yA, yn, yc, yf⟩ := y
  dsimp only at *
  have HX := Lib.hid hx
  have HY := Lib.hid hy
  have HPX := Lib.hid hpx
  have HPY := Lib.hid hpy
  have HQ := Lib.hid hq
  have hB0 := (gr2 w (.cells #[.int .i64 xi, .int .i64 xr, .slice xA xn xc] 28) (.cells #[.int .i64 yi, .int .i64 yr, .slice yA yn yc] 28)).below
  have hX0 := (Blk.new w 28 #[.int .i64 xi, .int .i64 xr, .slice xA xn xc]).alloc (.cells #[.int .i64 yi, .int .i64 yr, .slice yA yn yc] 28)
  have hY0 := Blk.new (w.alloc (.cells #[.int .i64 xi, .int .i64 xr, .slice xA xn xc] 28)) 28 #[.int .i64 yi, .int .i64 yr, .slice yA yn yc]
  rw [show (w.alloc (.cells #[.int .i64 xi, .int .i64 xr, .slice xA xn xc] 28)).heap.size = w.heap.size + 1 by simp] at hY0
  have RX := Lib.hid (RdK.below hr hB0)
  have RY := Lib.hid (RdK.below hr' hB0)
  have BB := Lib.hid hB0
  have BX := Lib.hid hX0
  have BY := Lib.hid hY0
  clear hx hy hq hB0 hX0 hY0 hr hr' hpx hpy
  obtain ⟨x0, x1, x2⟩ := cells3 BX.out
  obtain ⟨y0, y1, y2⟩ := cells3 BY.out
  have hl1 := BX.out.lt
  have hl2 := BY.out.lt
  go_enter Try.func13, Try.ntmps13
  go_wp2_with fail
  refine (rcovers_at xA xf xn xc HX.out hmx HPX.out yA yf yn yc HY.out hmy HPY.out _ RX.out RY.out).mono ?_
  rintro e w2 ⟨q2, rfl, hq2, hb⟩
  have HQ2 := Lib.hid hq2
  replace BX := Lib.hid (Blk.below BX.out hb BX.out.lt)
  replace BY := Lib.hid (Blk.below BY.out hb BY.out.lt)
  replace RX := Lib.hid (RdK.below RX.out hb)
  replace RY := Lib.hid (RdK.below RY.out hb)
  replace BB := Lib.hid (below_next BB.out (by have := BB.out.size; omega) hb)
  clear x0 x1 x2 y0 y1 y2 hl1 hl2 hb hq2
  obtain ⟨x0, x1, x2⟩ := cells3 BX.out
  obtain ⟨y0, y1, y2⟩ := cells3 BY.out
  have hl1 := BX.out.lt
  have hl2 := BY.out.lt
  go_wp2_with fail
  refine (rcovers_at yA yf yn yc HY.out hmy HPY.out xA xf xn xc HX.out hmx HPX.out _ RY.out RX.out).mono ?_
  rintro e w3 ⟨q3, rfl, hq3, hb⟩
  have HQ3 := Lib.hid hq3
  replace BX := Lib.hid (Blk.below BX.out hb BX.out.lt)
  replace BY := Lib.hid (Blk.below BY.out hb BY.out.lt)
  replace BB := Lib.hid (below_next BB.out (by have := BB.out.size; omega) hb)
  clear x0 x1 x2 y0 y1 y2 hl1 hl2 hb hq3
  obtain ⟨x0, x1, x2⟩ := cells3 BX.out
  obtain ⟨y0, y1, y2⟩ := cells3 BY.out
  have hl1 := BX.out.lt
  have hl2 := BY.out.lt
  by_cases h1 : xi = yi
  · have d1 : (xi != yi) = false := by simpa using h1
    have HF : Hid (false = q) := by
      cases q with
      | false => rfl
      | true => exact absurd h1 (HQ.out.1 rfl).1
    clear h1
    go_wp2_with fail
    go_ret
    exact ⟨ret_b HF.out, BB.out⟩
  · have d1 : (xi != yi) = true := by simpa using h1
    have H1 := Lib.hid h1
    clear h1
    cases q2 with
    | false =>
      have HF : Hid (false = q) := by
        cases q with
        | false => rfl
        | true => exact HQ2.out.2 (HQ.out.1 rfl).2.1
      go_wp2_with fail
      go_ret
      exact ⟨ret_b HF.out, BB.out⟩
    | true =>
      have HC := Lib.hid (HQ2.out.1 rfl)
      clear HQ2
      cases q3 with
      | false =>
        have HF : Hid (true = q) := (HQ.out.2 ⟨H1.out, HC.out, .inr fun hc => by have := HQ3.out.2 hc; cases this⟩).symm
        go_wp2_with fail
        go_ret
        exact ⟨ret_b HF.out, BB.out⟩
      | true =>
        have HD := Lib.hid (HQ3.out.1 rfl)
        clear HQ3
        have HF : Hid (decide (xi < yi) = q) := by
          show _ = _
          rw [Bool.eq_iff_iff, HQ.out, decide_eq_true_iff]
          constructor
          · intro h; exact ⟨H1.out, HC.out, .inl h⟩
          · rintro ⟨_, _, h | h⟩
            · exact h
            · exact absurd HD.out h
        go_wp2_with fail
        go_ret
        exact ⟨ret_b HF.out, BB.out⟩
end Go.Proofs.Ytckabmlilbkmbaa
