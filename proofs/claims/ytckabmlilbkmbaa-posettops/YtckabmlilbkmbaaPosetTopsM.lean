/-
  Each entry is a top, or a top stands above it, and never both: for every row of entries the call of the law answers true, and all arguments read behind it as they read before. No condition.
-/
import Derived.Test.YtckabmlilbkmbaaP4
namespace Go.Proofs.Ytckabmlilbkmbaa
open Go.RowKit Go.ChangeShapes Go.WideShapes Go.ChangeAt Go.Sort Spans Tb
theorem tell_next {b : Bool} {P Q : Prop} {z : Bool} (h : TellB b P) (hz : TellB z Q) : TellB (b || z) (P ∨ Q) := by
  unfold TellB at *; rw [Bool.or_eq_true, h, hz]
set_option maxRecDepth 100000 in
set_option maxHeartbeats 8000000 in
theorem walk_PosetTops (w : World) (A : Option Addr) (es : List Ex) (n c : Nat) (hn : es.length = n) (_ : n ≤ c) (_ : c ≤ maxLen) (hz : n ≤ 3600000000000) (hr : RdEn w A es) (hb : EBx es) :
    Calls Try.prog 6 #[.slice A n c] w fun e w' => e = .returned (.bool true) ∧ Below w.heap.size w w' := by
  have HN := Lib.hid hn
  have HR := Lib.hid hr
  have HBX := Lib.hid hb
  obtain ⟨q, hq⟩ : ∃ q, fewE es = q := ⟨_, rfl⟩
  have HQ := Lib.hid hq
  clear hn hr hb hq
  go_enter Try.func6, Try.ntmps6
  go_wp2_with fail
  refine (small_at w).mono ?_
  rintro e w1 ⟨rfl, hb⟩
  have BB := Lib.hid hb
  clear hb
  go_wp2_with fail
  refine (tfew_at A es n c HN.out (by omega) HBX.out w1 (HR.out.below BB.out) q HQ.out).mono ?_
  rintro e w2 ⟨rfl, hb⟩
  replace BB := Lib.hid (below_next BB.out (Nat.le_refl _) hb)
  clear hb
  cases q with
  | false =>
    go_wp2_with fail
    go_ret
    exact ⟨rfl, BB.out⟩
  | true =>
    have HEF := Lib.hid (few_ef HQ.out HBX.out)
    have hn80 : n ≤ 80 := by rw [← HN.out]; exact (fewE_of HQ.out).2.1
    obtain ⟨qo, hqo⟩ := prop_ex (Once es n)
    have HQO := Lib.hid hqo
    clear hqo HQ HBX hz
    go_wp2_with fail
    refine (once_at A es n c HN.out (by omega) w2 (HR.out.below BB.out) qo HQO.out).mono ?_
    rintro e w3 ⟨rfl, hb⟩
    replace BB := Lib.hid (below_next BB.out (Nat.le_refl _) hb)
    clear hb
    cases qo with
    | false =>
      go_wp2_with fail
      go_ret
      exact ⟨rfl, BB.out⟩
    | true =>
      have HON := Lib.hid (HQO.out.1 rfl)
      obtain ⟨q, hqa⟩ := abvs_ex es n
      have HA := Lib.hid hqa
      have HOR := Lib.hid (Po.Told.ord hqa HON.out.1)
      clear HQO hqa
      go_wp2_with fail
      refine (tops_at A es n c HN.out (by omega) HEF.out w3 (HR.out.below BB.out) q HA.out).mono ?_
      rintro e w4 ⟨B, m, d, rfl, hm, hmd, hrt, hb⟩
      obtain ⟨id, hid⟩ : ∃ id, idAt es = id := ⟨_, rfl⟩
      rw [hid] at hm hrt
      have HID := Lib.hid hid
      obtain ⟨ts, hts⟩ : ∃ ts, Po.topsL q id n = ts := ⟨_, rfl⟩
      rw [hts] at hm hrt
      have HTS := Lib.hid hts
      have HM := Lib.hid hm
      have HT := Lib.hid hrt
      have hmn : m ≤ n := by rw [← hm, ← hts]; exact Po.topsTo_len n
      replace BB := Lib.hid (below_next BB.out (Nat.le_refl _) hb)
      have HE4 := Lib.hid (HR.out.below BB.out)
      clear hm hrt hid hts hb HR
      go_wp2_with fail
      go_loopg [6] n (fun gg s6 wr => ∃ i : Nat, i ≤ n ∧ n - i ≤ gg ∧ s6 = .int .i64 (i : Int) ∧ Hid (Below w4.heap.size w4 wr))
      case atStart => exact ⟨0, Nat.zero_le _, by omega, rfl, Below.refl _ _⟩
      case round =>
        obtain ⟨i, hi, hgg, rfl, HB⟩ := hrel
        by_cases hlt : i < n
        · have w5 : (i : Int) < (n : Int) := by omega
          obtain ⟨g, off, rfl⟩ := ent_addr HE4.out (by rw [HN.out]; omega)
          have hdi : ∀ W, Below w4.heap.size w4 W → W.cell? ⟨g, off + i * 3, none⟩ = some (.int .i64 (id i)) := fun W hW => by
            have := (hW.cell (p := ⟨g, off + i * 3, none⟩) (ent_id HN.out hlt HE4.out).1).trans (ent_id HN.out hlt HE4.out).2
            rw [HID.out] at this
            exact this
          have HDI := Lib.hid hdi
          clear hdi
          obtain ⟨xi, hxi⟩ : ∃ x, id i = x := ⟨_, rfl⟩
          rw [hxi] at HDI
          have HXI := Lib.hid hxi
          clear hxi
          go_wp2_with fail
          go_loopg [7, 8, 9] m (fun g2 s7 s8 s9 wy => ∃ (k : Nat) (t u : Bool), k + g2 = m ∧ s9 = .int .i64 (k : Int) ∧ s7 = .bool t ∧ s8 = .bool u ∧ Hid (TellB t (xi ∈ ts.take k)) ∧ Hid (TellB u (∃ j, j < n ∧ id j ∈ ts.take k ∧ q j i = true)) ∧ Hid (Below w4.heap.size w4 wy))
          case atStart => exact ⟨0, false, false, by omega, rfl, rfl, rfl, by show TellB _ _; unfold TellB; simp, by show TellB _ _; unfold TellB; simp, HB⟩
          case round =>
            clear HB
            obtain ⟨k, t, u, hkg, rfl, rfl, rfl, HTT, HU, HB⟩ := hrel
            cases gk with
            | zero =>
              obtain rfl : k = m := by omega
              have hne : (t == u) = false := by
                have h1 := HTT.out
                have h2 := HU.out
                unfold TellB at h1 h2
                rw [List.take_of_length_le (by rw [HM.out]; exact Nat.le_refl _)] at h1 h2
                have h3 := HOR.out.tops hlt
                rw [HID.out, HTS.out, HXI.out] at h3
                rw [beq_eq_false_iff_ne]
                intro e
                subst e
                cases t with
                | false =>
                  have h4 : ¬ xi ∈ ts := fun h => by have := h1.2 h; cases this
                  exact h4 (h3.2 fun h => by have := h2.2 h; cases this)
                | true => exact (h3.1 (h1.1 rfl)) (h2.1 rfl)
              go_wp2_with fail
              go_roundg (n - (i + 1))
              case measure => omega
              case rel => exact ⟨i + 1, by omega, Nat.le_refl _, by go_num, HB⟩
            | succ gk =>
              have hk' : k < ts.length := by rw [HM.out]; omega
              have w6 : (k : Int) < (m : Int) := by omega
              obtain ⟨gt, ot, rfl, hgt, c1⟩ := RdI.at1 HT.out hk'
              obtain ⟨y, hy⟩ : ∃ y, ts[k] = y := ⟨_, rfl⟩
              rw [hy] at c1
              have HY := Lib.hid hy
              have HDT : Hid (∀ W, Below w4.heap.size w4 W → W.cell? ⟨gt, ot + k, none⟩ = some (.int .i64 y)) := fun W hW => (hW.cell (p := ⟨gt, ot + k, none⟩) hgt).trans c1
              clear hy c1 hgt
              have z1 := gx_cell (HDT.out _ HB.out)
              have z2 := gx_cell (HDI.out _ HB.out)
              obtain ⟨z, hz⟩ : ∃ z, (y == xi) = z := ⟨_, rfl⟩
              have HT2 : Hid (TellB (t || z) (xi ∈ ts.take (k + 1))) := by
                have := tell_next HTT.out (show TellB z (y = xi) by unfold TellB; rw [← hz, beq_iff_eq])
                show TellB _ _
                unfold TellB at this ⊢
                rw [this, List.take_succ_eq_append_getElem hk', List.mem_append, HY.out, List.mem_singleton]
                exact or_congr_right ⟨fun e => e.symm, fun e => e.symm⟩
              cases t with
              | true =>
                rw [Bool.true_or] at HT2
                clear hz HTT
                go_wp2_with fail
                (refine qb_region mixedT (by kernel_rfl) ?_; (repeat (refine hq_step (fun K hK => ?_); go_simp; first | (refine hK _ ?_; clear hK K) | (apply Exists.intro; refine ⟨fun _ => ?_, hK _ ?_⟩; (fail); clear hK K))); refine hq_nil ?_; intro _ hw'; obtain ⟨⟨nq, osq⟩, hw''⟩ := hw'; subst hw'')
                have HB2 := Lib.hid (below_next HB.out (Nat.le_refl _) (below_gx wr nq osq))
                generalize gx wr nq osq = wg at *
                clear z1 z2
                clear HB
                obtain ⟨wo, rfl⟩ : ∃ x : World, x = wg := ⟨_, rfl⟩
                go_wp2_with fail
                go_loopg [8, 10] n (fun g3 s8 s10 wz => ∃ (j : Nat) (v : Bool), j + g3 = n ∧ s10 = .int .i64 (j : Int) ∧ s8 = .bool v ∧ Hid (TellB v ((∃ j, j < n ∧ id j ∈ ts.take k ∧ q j i = true) ∨ ∃ a, a < j ∧ id a = y ∧ q a i = true)) ∧ Hid (Below w4.heap.size w4 wz))
                case atStart => exact ⟨0, u, by omega, rfl, rfl, by have := HU.out; show TellB _ _; unfold TellB at this ⊢; rw [this]; simp, HB2⟩
                case round =>
                  clear HB2 HU
                  obtain ⟨j, v, hjg, rfl, rfl, HV, HB2⟩ := hrel
                  cases gk with
                  | zero =>
                    obtain rfl : j = n := by omega
                    have HU2 : Hid (TellB v (∃ a, a < j ∧ id a ∈ ts.take (k + 1) ∧ q a i = true)) := by
                      have := HV.out
                      show TellB _ _
                      unfold TellB at this ⊢
                      rw [this, List.take_succ_eq_append_getElem hk', HY.out]
                      constructor
                      · rintro (⟨a, h1, h2, h3⟩ | ⟨a, h1, h2, h3⟩)
                        · exact ⟨a, h1, List.mem_append_left _ h2, h3⟩
                        · exact ⟨a, h1, by rw [h2]; simp, h3⟩
                      · rintro ⟨a, h1, h2, h3⟩
                        rcases List.mem_append.1 h2 with h2 | h2
                        · exact .inl ⟨a, h1, h2, h3⟩
                        · exact .inr ⟨a, h1, by simpa using h2, h3⟩
                    clear HV
                    go_wp2_with fail
                    go_roundg gk
                    case measure => omega
                    case rel => exact ⟨k + 1, true, v, by omega, by go_num, rfl, rfl, HT2, HU2, HB2⟩
                  | succ gj =>
                    have hj : j < n := by omega
                    have hj' : j < es.length := by rw [HN.out]; exact hj
                    have w7 : (j : Int) < (n : Int) := by omega
                    have z1 := gx_cell (HDT.out _ HB2.out)
                    cases v with
                    | true =>
                      have HV2 : Hid (TellB true ((∃ j, j < n ∧ id j ∈ ts.take k ∧ q j i = true) ∨ ∃ a, a < j + 1 ∧ id a = y ∧ q a i = true)) := by
                        refine ⟨fun _ => ?_, fun _ => rfl⟩
                        rcases HV.out.1 rfl with h | ⟨a, h1, h2⟩
                        · exact .inl h
                        · exact .inr ⟨a, by omega, h2⟩
                      go_wp2_with fail
                      (refine qb_region mixedT (by kernel_rfl) ?_; (repeat (refine hq_step (fun K hK => ?_); go_simp; first | (refine hK _ ?_; clear hK K) | (apply Exists.intro; refine ⟨fun _ => ?_, hK _ ?_⟩; (fail); clear hK K))); refine hq_nil ?_; intro _ hw'; obtain ⟨⟨nq, osq⟩, hw''⟩ := hw'; subst hw'')
                      have HB3 := Lib.hid (below_next HB2.out (Nat.le_refl _) (below_gx wr nq osq))
                      clear z1
                      go_wp2_with fail
                      go_roundg gj
                      case measure => omega
                      case rel => exact ⟨j + 1, true, by omega, by go_num, rfl, HV2, HB3⟩
                    | false =>
                      obtain ⟨g', off', e0, _, c0, c1, c2, hf⟩ := RdEn.at3 (HE4.out.below HB2.out) hj'
                      injection e0 with e0
                      injection e0 with e1 e2
                      subst e1; subst e2
                      have hsy := HEF.out _ (List.getElem_mem hj')
                      have hidj : idAt es j = es[j].id := idAt_is hj'
                      rw [HID.out] at hidj
                      obtain ⟨yy, hyy⟩ : ∃ y, es[j] = y := ⟨_, rfl⟩
                      have HYY := Lib.hid hyy
                      rw [hyy] at c0 c1 c2 hf hsy hidj
                      clear hyy
                      obtain ⟨yi, yr, yA, yn, yc, yf⟩ := yy
                      obtain ⟨hf1, _, hf3⟩ := hf
                      dsimp only at c0 c1 c2 hsy hf1 hf3 hidj
                      have HIJ := Lib.hid hidj
                      have hi' : i < es.length := by rw [HN.out]; exact hlt
                      obtain ⟨g', off', e0, _, d0, d1, d2, hk2⟩ := RdEn.at3 (HE4.out.below HB2.out) hi'
                      injection e0 with e0
                      injection e0 with e1 e2
                      subst e1; subst e2
                      have hsx := HEF.out _ (List.getElem_mem hi')
                      obtain ⟨xx, hxx⟩ : ∃ y, es[i] = y := ⟨_, rfl⟩
                      have HXX := Lib.hid hxx
                      rw [hxx] at d0 d1 d2 hk2 hsx
                      clear hxx
                      obtain ⟨xj, xr, xA, xn, xc, xf⟩ := xx
                      obtain ⟨hk1, _, hk3⟩ := hk2
                      dsimp only at d0 d1 d2 hsx hk1 hk3
                      have hqj := HA.out.at_ HN.out hj hlt (fun _ => HYY.out) (fun _ => HXX.out)
                      obtain ⟨qj, hqv⟩ : ∃ b, q j i = b := ⟨_, rfl⟩
                      have HQV := Lib.hid hqv
                      rw [hqv] at hqj
                      have C1 := Lib.hid (fun nn os => above_at ⟨yi, yr, yA, yn, yc, yf⟩ ⟨xj, xr, xA, xn, xc, xf⟩ hf1 hsy.1 hsy.2 hk1 hsx.1 hsx.2 (gx wr nn os) (RdK.below hf3 (below_gx wr nn os)) (RdK.below hk3 (below_gx wr nn os)) qj hqj)
                      have z2 := gx_cell c0
                      have z3 := gx_cell c1
                      have z4 := gx_cell c2
                      have z5 := gx_cell d0
                      have z6 := gx_cell d1
                      have z7 := gx_cell d2
                      clear hf1 hf3 hk1 hk3 hsy hsx hqv hqj c0 c1 c2 d0 d1 d2 hidj
                      have hstep : ∀ b : Bool, (b = true ↔ yi = y ∧ qj = true) → TellB b ((∃ j, j < n ∧ id j ∈ ts.take k ∧ q j i = true) ∨ ∃ a, a < j + 1 ∧ id a = y ∧ q a i = true) := fun b hb => by
                        have h0 := HV.out
                        unfold TellB at h0 ⊢
                        rw [hb]
                        constructor
                        · rintro ⟨e1, e2⟩
                          exact .inr ⟨j, by omega, by rw [HIJ.out]; exact e1, by rw [HQV.out]; exact e2⟩
                        · rintro (h | ⟨a, h1, h2, h3⟩)
                          · have := h0.2 (.inl h); cases this
                          · by_cases e : a = j
                            · subst e
                              exact ⟨by rw [← HIJ.out]; exact h2, by rw [← HQV.out]; exact h3⟩
                            · have := h0.2 (.inr ⟨a, by omega, h2, h3⟩); cases this
                      have HSTEP := Lib.hid hstep
                      clear hstep
                      by_cases he : yi = y
                      · have hd : (yi == y) = true := beq_iff_eq.2 he
                        have HV2 := Lib.hid (HSTEP.out qj (by simp [he]))
                        clear he
                        go_wp2_with fail
                        (refine qb_region mixedT (by kernel_rfl) ?_; (repeat (refine hq_step (fun K hK => ?_); go_simp; first | (refine hK _ ?_; clear hK K) | (apply Exists.intro; refine ⟨fun _ => ?_, hK _ ?_⟩; (go_at_call 12; with_reducible exact calls_gx (C1.out _ _)); clear hK K))); refine hq_nil ?_; intro _ hw'; obtain ⟨⟨nq, osq⟩, hw''⟩ := hw'; subst hw'')
                        have HB3 := Lib.hid (below_next HB2.out (Nat.le_refl _) (below_gx wr nq osq))
                        clear z1 z2 z3 z4 z5 z6 z7 C1 hd
                        go_wp2_with fail
                        go_roundg gj
                        case measure => omega
                        case rel => exact ⟨j + 1, qj, by omega, by go_num, rfl, HV2, HB3⟩
                      · have hd : (yi == y) = false := beq_eq_false_iff_ne.2 he
                        have HV2 := Lib.hid (HSTEP.out false (by simp [he]))
                        clear he
                        go_wp2_with fail
                        (refine qb_region mixedT (by kernel_rfl) ?_; (repeat (refine hq_step (fun K hK => ?_); go_simp; first | (refine hK _ ?_; clear hK K) | (apply Exists.intro; refine ⟨fun _ => ?_, hK _ ?_⟩; (fail); clear hK K))); refine hq_nil ?_; intro _ hw'; obtain ⟨⟨nq, osq⟩, hw''⟩ := hw'; subst hw'')
                        have HB3 := Lib.hid (below_next HB2.out (Nat.le_refl _) (below_gx wr nq osq))
                        clear z1 z2 z3 z4 z5 z6 z7 C1 hd
                        go_wp2_with fail
                        go_roundg gj
                        case measure => omega
                        case rel => exact ⟨j + 1, false, by omega, by go_num, rfl, HV2, HB3⟩
              | false =>
                rw [Bool.false_or] at HT2
                clear HTT
                go_wp2_with fail
                (refine qb_region mixedT (by kernel_rfl) ?_; (repeat (refine hq_step (fun K hK => ?_); go_simp; first | (refine hK _ ?_; clear hK K) | (apply Exists.intro; refine ⟨fun _ => ?_, hK _ ?_⟩; (fail); clear hK K))); refine hq_nil ?_; intro _ hw'; obtain ⟨⟨nq, osq⟩, hw''⟩ := hw'; subst hw'')
                have HB2 := Lib.hid (below_next HB.out (Nat.le_refl _) (below_gx wr nq osq))
                generalize gx wr nq osq = wg at *
                clear z1 z2 hz
                clear HB
                obtain ⟨wo, rfl⟩ : ∃ x : World, x = wg := ⟨_, rfl⟩
                go_wp2_with fail
                go_loopg [8, 10] n (fun g3 s8 s10 wz => ∃ (j : Nat) (v : Bool), j + g3 = n ∧ s10 = .int .i64 (j : Int) ∧ s8 = .bool v ∧ Hid (TellB v ((∃ j, j < n ∧ id j ∈ ts.take k ∧ q j i = true) ∨ ∃ a, a < j ∧ id a = y ∧ q a i = true)) ∧ Hid (Below w4.heap.size w4 wz))
                case atStart => exact ⟨0, u, by omega, rfl, rfl, by have := HU.out; show TellB _ _; unfold TellB at this ⊢; rw [this]; simp, HB2⟩
                case round =>
                  clear HB2 HU
                  obtain ⟨j, v, hjg, rfl, rfl, HV, HB2⟩ := hrel
                  cases gk with
                  | zero =>
                    obtain rfl : j = n := by omega
                    have HU2 : Hid (TellB v (∃ a, a < j ∧ id a ∈ ts.take (k + 1) ∧ q a i = true)) := by
                      have := HV.out
                      show TellB _ _
                      unfold TellB at this ⊢
                      rw [this, List.take_succ_eq_append_getElem hk', HY.out]
                      constructor
                      · rintro (⟨a, h1, h2, h3⟩ | ⟨a, h1, h2, h3⟩)
                        · exact ⟨a, h1, List.mem_append_left _ h2, h3⟩
                        · exact ⟨a, h1, by rw [h2]; simp, h3⟩
                      · rintro ⟨a, h1, h2, h3⟩
                        rcases List.mem_append.1 h2 with h2 | h2
                        · exact .inl ⟨a, h1, h2, h3⟩
                        · exact .inr ⟨a, h1, by simpa using h2, h3⟩
                    clear HV
                    go_wp2_with fail
                    go_roundg gk
                    case measure => omega
                    case rel => exact ⟨k + 1, z, v, by omega, by go_num, rfl, rfl, HT2, HU2, HB2⟩
                  | succ gj =>
                    have hj : j < n := by omega
                    have hj' : j < es.length := by rw [HN.out]; exact hj
                    have w7 : (j : Int) < (n : Int) := by omega
                    have z1 := gx_cell (HDT.out _ HB2.out)
                    cases v with
                    | true =>
                      have HV2 : Hid (TellB true ((∃ j, j < n ∧ id j ∈ ts.take k ∧ q j i = true) ∨ ∃ a, a < j + 1 ∧ id a = y ∧ q a i = true)) := by
                        refine ⟨fun _ => ?_, fun _ => rfl⟩
                        rcases HV.out.1 rfl with h | ⟨a, h1, h2⟩
                        · exact .inl h
                        · exact .inr ⟨a, by omega, h2⟩
                      go_wp2_with fail
                      (refine qb_region mixedT (by kernel_rfl) ?_; (repeat (refine hq_step (fun K hK => ?_); go_simp; first | (refine hK _ ?_; clear hK K) | (apply Exists.intro; refine ⟨fun _ => ?_, hK _ ?_⟩; (fail); clear hK K))); refine hq_nil ?_; intro _ hw'; obtain ⟨⟨nq, osq⟩, hw''⟩ := hw'; subst hw'')
                      have HB3 := Lib.hid (below_next HB2.out (Nat.le_refl _) (below_gx wr nq osq))
                      clear z1
                      go_wp2_with fail
                      go_roundg gj
                      case measure => omega
                      case rel => exact ⟨j + 1, true, by omega, by go_num, rfl, HV2, HB3⟩
                    | false =>
                      obtain ⟨g', off', e0, _, c0, c1, c2, hf⟩ := RdEn.at3 (HE4.out.below HB2.out) hj'
                      injection e0 with e0
                      injection e0 with e1 e2
                      subst e1; subst e2
                      have hsy := HEF.out _ (List.getElem_mem hj')
                      have hidj : idAt es j = es[j].id := idAt_is hj'
                      rw [HID.out] at hidj
                      obtain ⟨yy, hyy⟩ : ∃ y, es[j] = y := ⟨_, rfl⟩
                      have HYY := Lib.hid hyy
                      rw [hyy] at c0 c1 c2 hf hsy hidj
                      clear hyy
                      obtain ⟨yi, yr, yA, yn, yc, yf⟩ := yy
                      obtain ⟨hf1, _, hf3⟩ := hf
                      dsimp only at c0 c1 c2 hsy hf1 hf3 hidj
                      have HIJ := Lib.hid hidj
                      have hi' : i < es.length := by rw [HN.out]; exact hlt
                      obtain ⟨g', off', e0, _, d0, d1, d2, hk2⟩ := RdEn.at3 (HE4.out.below HB2.out) hi'
                      injection e0 with e0
                      injection e0 with e1 e2
                      subst e1; subst e2
                      have hsx := HEF.out _ (List.getElem_mem hi')
                      obtain ⟨xx, hxx⟩ : ∃ y, es[i] = y := ⟨_, rfl⟩
                      have HXX := Lib.hid hxx
                      rw [hxx] at d0 d1 d2 hk2 hsx
                      clear hxx
                      obtain ⟨xj, xr, xA, xn, xc, xf⟩ := xx
                      obtain ⟨hk1, _, hk3⟩ := hk2
                      dsimp only at d0 d1 d2 hsx hk1 hk3
                      have hqj := HA.out.at_ HN.out hj hlt (fun _ => HYY.out) (fun _ => HXX.out)
                      obtain ⟨qj, hqv⟩ : ∃ b, q j i = b := ⟨_, rfl⟩
                      have HQV := Lib.hid hqv
                      rw [hqv] at hqj
                      have C1 := Lib.hid (fun nn os => above_at ⟨yi, yr, yA, yn, yc, yf⟩ ⟨xj, xr, xA, xn, xc, xf⟩ hf1 hsy.1 hsy.2 hk1 hsx.1 hsx.2 (gx wr nn os) (RdK.below hf3 (below_gx wr nn os)) (RdK.below hk3 (below_gx wr nn os)) qj hqj)
                      have z2 := gx_cell c0
                      have z3 := gx_cell c1
                      have z4 := gx_cell c2
                      have z5 := gx_cell d0
                      have z6 := gx_cell d1
                      have z7 := gx_cell d2
                      clear hf1 hf3 hk1 hk3 hsy hsx hqv hqj c0 c1 c2 d0 d1 d2 hidj
                      have hstep : ∀ b : Bool, (b = true ↔ yi = y ∧ qj = true) → TellB b ((∃ j, j < n ∧ id j ∈ ts.take k ∧ q j i = true) ∨ ∃ a, a < j + 1 ∧ id a = y ∧ q a i = true) := fun b hb => by
                        have h0 := HV.out
                        unfold TellB at h0 ⊢
                        rw [hb]
                        constructor
                        · rintro ⟨e1, e2⟩
                          exact .inr ⟨j, by omega, by rw [HIJ.out]; exact e1, by rw [HQV.out]; exact e2⟩
                        · rintro (h | ⟨a, h1, h2, h3⟩)
                          · have := h0.2 (.inl h); cases this
                          · by_cases e : a = j
                            · subst e
                              exact ⟨by rw [← HIJ.out]; exact h2, by rw [← HQV.out]; exact h3⟩
                            · have := h0.2 (.inr ⟨a, by omega, h2, h3⟩); cases this
                      have HSTEP := Lib.hid hstep
                      clear hstep
                      by_cases he : yi = y
                      · have hd : (yi == y) = true := beq_iff_eq.2 he
                        have HV2 := Lib.hid (HSTEP.out qj (by simp [he]))
                        clear he
                        go_wp2_with fail
                        (refine qb_region mixedT (by kernel_rfl) ?_; (repeat (refine hq_step (fun K hK => ?_); go_simp; first | (refine hK _ ?_; clear hK K) | (apply Exists.intro; refine ⟨fun _ => ?_, hK _ ?_⟩; (go_at_call 12; with_reducible exact calls_gx (C1.out _ _)); clear hK K))); refine hq_nil ?_; intro _ hw'; obtain ⟨⟨nq, osq⟩, hw''⟩ := hw'; subst hw'')
                        have HB3 := Lib.hid (below_next HB2.out (Nat.le_refl _) (below_gx wr nq osq))
                        clear z1 z2 z3 z4 z5 z6 z7 C1 hd
                        go_wp2_with fail
                        go_roundg gj
                        case measure => omega
                        case rel => exact ⟨j + 1, qj, by omega, by go_num, rfl, HV2, HB3⟩
                      · have hd : (yi == y) = false := beq_eq_false_iff_ne.2 he
                        have HV2 := Lib.hid (HSTEP.out false (by simp [he]))
                        clear he
                        go_wp2_with fail
                        (refine qb_region mixedT (by kernel_rfl) ?_; (repeat (refine hq_step (fun K hK => ?_); go_simp; first | (refine hK _ ?_; clear hK K) | (apply Exists.intro; refine ⟨fun _ => ?_, hK _ ?_⟩; (fail); clear hK K))); refine hq_nil ?_; intro _ hw'; obtain ⟨⟨nq, osq⟩, hw''⟩ := hw'; subst hw'')
                        have HB3 := Lib.hid (below_next HB2.out (Nat.le_refl _) (below_gx wr nq osq))
                        clear z1 z2 z3 z4 z5 z6 z7 C1 hd
                        go_wp2_with fail
                        go_roundg gj
                        case measure => omega
                        case rel => exact ⟨j + 1, false, by omega, by go_num, rfl, HV2, HB3⟩
        · obtain rfl : i = n := by omega
          go_wp2_with fail
          go_ret
          exact ⟨rfl, below_next BB.out (Nat.le_refl _) HB.out⟩

/-! ### The row's step. -/
namespace posetTops
theorem own : ownKnob Try.prog.godebug = none := by kernel_rfl
theorem laidOut : laidOutB Try.prog = true := by kernel_rfl
set_option linter.unusedVariables false in
set_option maxRecDepth 100000 in
theorem lifted (os : Os) (started : os.Started) (H : Type) (enc : TypeId × Value → H) :
    ReturnsInHanded {} Try.checked os 6 .any (Rows.posetTopsSpec.pre6 enc Try.prog Try.f6 Rows.posetTopsRow.domain false) (Rows.posetTopsSpec.post enc Try.prog Try.f6 false true false false) := by
  refine returnsInHanded_of_change_sized (C := Try.checked) own started (by kernel_rfl) Try.func6
    (ChangeSpec.witness6 (enc := enc) (C := Try.checked) false ⟨#[], #[.slice none 0 0], []⟩ 8 (by kernel_rfl) (by kernel_rfl) (by kernel_rfl) (by kernel_rfl)) ?_
  intro W base args ds gs before hval0 hW hcnd hsz0 _
  have hval : ∀ (j : Nat) t v, Try.f6.params[j]? = some t → args[j]? = some v → Value.okWide Try.prog W .any base t v := hval0
  have hsz : (DataW.weightsEach Try.prog (Try.f6.params.toList ++ Rows.posetTopsSpec.plain.varTypes Try.prog) (ds ++ gs)).all (· ≤ reachBytes) = true := hsz0
  have hW' := hW
  obtain ⟨p, q, hA0, hV, rfl, hfz, hnd⟩ := hW
  have hA : DataW.TrodAll enc Try.prog W 0 (fun _ => true) true Try.f6.params.toList args.toList ds p := hA0
  rw [Try.params6] at hA hval hsz
  obtain ⟨v0, vs0, d0, ds0, p0, q0, hargs, rfl, rfl, h0, r0⟩ := trodAll_cons hA
  obtain ⟨rfl, rfl, rfl⟩ := trodAll_nil r0
  obtain rfl : args = #[v0] := by cases args; simp_all
  obtain ⟨rfl, rfl⟩ := trodVars_none hV
  obtain ⟨a0, len0, cap0, rfl⟩ := okWide_slice Try.underlying22 (hval 0 22 v0 rfl rfl)
  have k0 := h0
  have lt0 : ∀ x ∈ p0, x.block < W.heap.size := by obtain ⟨m, hm⟩ := k0; exact DataW.trod_lt m _ _ _ hm
  obtain ⟨es0, hl0, hc0, hm0, hz0, rd0, hw0⟩ := open_ents_of k0 (fun n hn => by simpa using List.all_eq_true.1 hsz n (DataW.weights_mem_each (j := 0) rfl rfl n hn))
  clear hA0 hval0
  refine (walk_PosetTops W a0 es0 len0 cap0 hl0 hc0 hm0 hz0 rd0 hw0).mono fun e W' ⟨he, bel⟩ => ?_
  subst he
  exact ⟨_, rfl, _, _, _, [], _, [], hW', trodAll_mk1 (shut_bool Try.underlying4 _), (trodAll_cons_mk (Below.trod laidOut (by kernel_rfl) (of_decide_eq_true (by kernel_rfl)) k0 bel lt0) trodAll_mk0), rfl, bel.frame _, fun h => by cases h⟩
theorem over : Rows.posetTopsRow.holds Try.pinned (OpenSpec.ofChange Rows.posetTopsSpec) :=
  OpenClaim.holds_of_wide 6 Try.f6 rfl rfl rfl rfl rfl rfl rfl ⟨rfl, rfl, rfl, rfl, rfl⟩ rfl rfl rfl rfl rfl (by kernel_rfl) Try.func6 (by kernel_rfl)
    (of_decide_eq_true (by kernel_rfl)) (by unfold Func.isWrapper; first | (rw [if_pos (by decide +kernel)]; kernel_rfl) | (rw [if_neg (by decide +kernel)]; exact ⟨rfl, rfl⟩))
    (fun os started H enc _ => lifted os started H enc)
end posetTops
/-- THE STATEMENT. -/
theorem posetTops_holds : Rows.PosetTopsSaid := posetTops.over
#print axioms posetTops_holds
end Go.Proofs.Ytckabmlilbkmbaa
