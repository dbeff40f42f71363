/-
  What stands above what, tops and edges are as the document tells: for every row of entries the call of the law answers true, and all arguments read behind it as they read before. No condition.
-/
import Derived.Test.YtckabmlilbkmbaaR9
namespace Go.Proofs.Ytckabmlilbkmbaa
open Go.RowKit Go.ChangeShapes Go.WideShapes Go.ChangeAt Go.Sort Spans Tb
set_option maxRecDepth 100000 in
set_option maxHeartbeats 8000000 in
theorem walk_PosetTells (w : World) (A : Option Addr) (es : List Ex) (n c : Nat) (hn : es.length = n) (_ : n ≤ c) (_ : c ≤ maxLen) (hz : n ≤ 3600000000000) (hr : RdEn w A es) (hb : EBx es) :
    Calls Try.prog 3 #[.slice A n c] w fun e w' => e = .returned (.bool true) ∧ Below w.heap.size w w' := by
  have HN := Lib.hid hn
  have HR := Lib.hid hr
  have HBX := Lib.hid hb
  obtain ⟨q, hq⟩ : ∃ q, fewE es = q := ⟨_, rfl⟩
  have HQ := Lib.hid hq
  clear hn hr hb hq
  go_enter Try.func3, Try.ntmps3
  go_wp2_with fail
  refine (small_at w).mono ?_
  rintro e w1 ⟨rfl, hb⟩
  have BB := Lib.hid hb
  clear hb
  go_wp2_with fail
  refine (tfew_at A es n c HN.out (by omega) HBX.out w1 (HR.out.below BB.out) q HQ.out).mono ?_
  rintro e w2 ⟨rfl, hb⟩
  replace BB := Lib.hid (below_next BB.out (Nat.le_refl _) hb)
  clear hb
  cases q with
  | false =>
    go_wp2_with fail
    go_ret
    exact ⟨rfl, BB.out⟩
  | true =>
    have HEF := Lib.hid (few_ef HQ.out HBX.out)
    have hn80 : n ≤ 80 := by rw [← HN.out]; exact (fewE_of HQ.out).2.1
    obtain ⟨qo, hqo⟩ := prop_ex (Once es n)
    have HQO := Lib.hid hqo
    clear hqo HQ HBX hz
    go_wp2_with fail
    refine (once_at A es n c HN.out (by omega) w2 (HR.out.below BB.out) qo HQO.out).mono ?_
    rintro e w3 ⟨rfl, hb⟩
    replace BB := Lib.hid (below_next BB.out (Nat.le_refl _) hb)
    clear hb
    cases qo with
    | false =>
      go_wp2_with fail
      go_ret
      exact ⟨rfl, BB.out⟩
    | true =>
      have HON := Lib.hid (HQO.out.1 rfl)
      obtain ⟨q, hqa⟩ := abvs_ex es n
      have HA := Lib.hid hqa
      have HOR := Lib.hid (Po.Told.ord hqa HON.out.1)
      clear HQO hqa
      go_wp2_with fail
      go_loopg [5] n (fun gg s5 wr => ∃ i : Nat, i ≤ n ∧ n - i ≤ gg ∧ s5 = .int .i64 (i : Int) ∧ Hid (Below w3.heap.size w3 wr))
      case atStart => exact ⟨0, Nat.zero_le _, by omega, rfl, Below.refl _ _⟩
      case round =>
        obtain ⟨i, hi, hgg, rfl, HB⟩ := hrel
        by_cases hlt : i < n
        · have w5 : (i : Int) < (n : Int) := by omega
          have HE3 := Lib.hid (HR.out.below BB.out)
          obtain ⟨g, off, rfl⟩ := ent_addr HE3.out (by rw [HN.out]; omega)
          go_wp2_with fail
          go_loopg [6] n (fun g2 s6 wy => ∃ k : Nat, k ≤ n ∧ n - k ≤ g2 ∧ s6 = .int .i64 (k : Int) ∧ Hid (Below w3.heap.size w3 wy))
          case atStart => exact ⟨0, Nat.zero_le _, by omega, rfl, HB⟩
          case round =>
            clear HB
            obtain ⟨k, hk, hgg2, rfl, HB⟩ := hrel
            by_cases hkn : k < n
            · have w6 : (k : Int) < (n : Int) := by omega
              have hi' : i < es.length := by rw [HN.out]; exact hlt
              have hk' : k < es.length := by rw [HN.out]; exact hkn
              obtain ⟨g', off', e0, _, c0, c1, c2, hf⟩ := RdEn.at3 (HE3.out.below HB.out) hi'
              injection e0 with e0
              injection e0 with e1 e2
              subst e1; subst e2
              obtain ⟨g', off', e0, _, d0, d1, d2, hk2⟩ := RdEn.at3 (HE3.out.below HB.out) hk'
              injection e0 with e0
              injection e0 with e1 e2
              subst e1; subst e2
              have hsx := HEF.out _ (List.getElem_mem hi')
              have hsy := HEF.out _ (List.getElem_mem hk')
              obtain ⟨xx, hxx⟩ : ∃ y, es[i] = y := ⟨_, rfl⟩
              have HXX := Lib.hid hxx
              obtain ⟨yy, hyy⟩ : ∃ y, es[k] = y := ⟨_, rfl⟩
              have HYY := Lib.hid hyy
              rw [hxx] at c0 c1 c2 hf hsx
              rw [hyy] at d0 d1 d2 hk2 hsy
              clear hxx hyy
              obtain ⟨xi, xr, xA, xn, xc, xf⟩ := xx
              obtain ⟨yi, yr, yA, yn, yc, yf⟩ := yy
              obtain ⟨hf1, _, hf3⟩ := hf
              obtain ⟨hk1, _, hk3⟩ := hk2
              dsimp only at c0 c1 c2 d0 d1 d2 hsx hsy hf1 hf3 hk1 hk3
              have hqj := HA.out.at_ HN.out hlt hkn (fun _ => HXX.out) (fun _ => HYY.out)
              obtain ⟨qj, hqv⟩ : ∃ b, q i k = b := ⟨_, rfl⟩
              rw [hqv] at hqj
              have C1 := Lib.hid (fun nn os => above_at ⟨xi, xr, xA, xn, xc, xf⟩ ⟨yi, yr, yA, yn, yc, yf⟩ hf1 hsx.1 hsx.2 hk1 hsy.1 hsy.2 (gx wr nn os) (RdK.below hf3 (below_gx wr nn os)) (RdK.below hk3 (below_gx wr nn os)) qj hqj)
              have C2 := Lib.hid (fun nn os => rabove_at ⟨xi, xr, xA, xn, xc, xf⟩ ⟨yi, yr, yA, yn, yc, yf⟩ hf1 hsx.1 hsx.2 hk1 hsy.1 hsy.2 (gx wr nn os) (RdK.below hf3 (below_gx wr nn os)) (RdK.below hk3 (below_gx wr nn os)) qj hqj)
              have z2 := gx_cell c0
              have z3 := gx_cell c1
              have z4 := gx_cell c2
              have z5 := gx_cell d0
              have z6 := gx_cell d1
              have z7 := gx_cell d2
              have hne : (qj != qj) = false := by simp
              clear hf1 hf3 hk1 hk3 hsy hsx hqj hqv c0 c1 c2 d0 d1 d2
              go_wp2_with fail
              (refine qb_region mixedT (by kernel_rfl) ?_; (repeat (refine hq_step (fun K hK => ?_); go_simp; first | (refine hK _ ?_; clear hK K) | (apply Exists.intro; refine ⟨fun _ => ?_, hK _ ?_⟩; (first | (go_at_call 12; with_reducible exact calls_gx (C1.out _ _)) | (go_at_call 13; with_reducible exact calls_gx (C2.out _ _))); clear hK K))); refine hq_nil ?_; intro _ hw'; obtain ⟨⟨nq, osq⟩, hw''⟩ := hw'; subst hw'')
              have HB3 := Lib.hid (below_next HB.out (Nat.le_refl _) (below_gx wr nq osq))
              clear z2 z3 z4 z5 z6 z7 C1 C2
              go_wp2_with fail
              go_roundg (n - (k + 1))
              case measure => omega
              case rel => exact ⟨k + 1, by omega, Nat.le_refl _, by go_num, HB3⟩
            · go_wp2_with fail
              go_roundg (n - (i + 1))
              case measure => omega
              case rel => exact ⟨i + 1, by omega, Nat.le_refl _, by go_num, HB⟩
        · obtain rfl : i = n := by omega
          obtain ⟨w4, rfl⟩ : ∃ x : World, x = wr := ⟨_, rfl⟩
          replace BB := Lib.hid (below_next BB.out (Nat.le_refl _) HB.out)
          clear HB
          go_wp2_with fail
          refine (tops_at A es i c HN.out (by omega) HEF.out w4 (HR.out.below BB.out) q HA.out).mono ?_
          rintro e w5 ⟨T1, m1, d1, rfl, hm1, hmd1, hrt1, hb⟩
          have HT1 := Lib.hid hrt1
          have HM1 := Lib.hid hm1
          replace BB := Lib.hid (below_next BB.out (Nat.le_refl _) hb)
          clear hb hrt1 hm1 hmd1
          go_wp2_with fail
          refine (rtops_at A es i c HN.out (by omega) HEF.out w5 (HR.out.below BB.out) q HA.out).mono ?_
          rintro e w6 ⟨T2, m2, d2, rfl, hm2, hmd2, hrt2, hb⟩
          have HT2 := Lib.hid hrt2
          have HM2 := Lib.hid hm2
          replace HT1 := Lib.hid (RdZ.below HT1.out hb)
          replace BB := Lib.hid (below_next BB.out (Nat.le_refl _) hb)
          have hm9 : m1 ≤ i ∧ m2 ≤ i := ⟨by rw [← HM1.out]; exact Po.topsTo_len i, by rw [← HM2.out]; exact Po.topsTo_len i⟩
          clear hb hrt2 hm2 hmd2
          go_wp2_with fail
          refine (ints_at T1 (Po.topsL q (idAt es) i) m1 d1 HM1.out T2 (Po.topsL q (idAt es) i) m2 d2 HM2.out ⟨by omega, by omega⟩ w6 HT1.out HT2.out true (by simp)).mono ?_
          rintro e w7 ⟨rfl, hb⟩
          replace BB := Lib.hid (below_next BB.out (Nat.le_refl _) hb)
          clear hb HT1 HT2 HM1 HM2 hm9
          go_wp2_with fail
          refine (edges_at A es i c HN.out (by omega) HEF.out w7 (HR.out.below BB.out) q HA.out).mono ?_
          rintro e w8 ⟨T3, m3, d3, rfl, hm3, hmd3, hrt3, hb⟩
          have HT3 := Lib.hid (rdz_own hrt3)
          have HM3 := Lib.hid hm3
          replace BB := Lib.hid (below_next BB.out (Nat.le_refl _) hb)
          clear hb hrt3 hm3 hmd3
          go_wp2_with fail
          refine (redges_at A es i c HN.out (by omega) HEF.out w8 (HR.out.below BB.out) q HA.out).mono ?_
          rintro e w9 ⟨T4, m4, d4, rfl, hm4, hmd4, hrt4, hb⟩
          have HT4 := Lib.hid (rdz_own hrt4)
          have HM4 := Lib.hid hm4
          replace HT3 := Lib.hid (RdZ.below HT3.out hb)
          replace BB := Lib.hid (below_next BB.out (Nat.le_refl _) hb)
          have hee : i * i ≤ 80 * 80 := Nat.mul_le_mul hn80 hn80
          have hm9 : m3 ≤ i * i ∧ m4 ≤ i * i := ⟨by rw [← HM3.out]; exact Po.edges_le, by rw [← HM4.out]; exact Po.edges_le⟩
          have hm8 : m3 ≤ 100000000 ∧ m4 ≤ 100000000 := ⟨by omega, by omega⟩
          clear hb hrt4 hm4 hmd4 hee hm9
          go_wp2_with fail
          refine (pairs_at T3 (Po.edgesL q (idAt es) i) m3 d3 HM3.out T4 (Po.edgesL q (idAt es) i) m4 d4 HM4.out hm8 w9 HT3.out HT4.out true (by simp)).mono ?_
          rintro e w10 ⟨rfl, hb⟩
          replace BB := Lib.hid (below_next BB.out (Nat.le_refl _) hb)
          clear hb
          go_wp2_with fail
          go_ret
          exact ⟨rfl, BB.out⟩

/-! ### The row's step. -/
namespace posetTells
theorem own : ownKnob Try.prog.godebug = none := by kernel_rfl
theorem laidOut : laidOutB Try.prog = true := by kernel_rfl
set_option linter.unusedVariables false in
set_option maxRecDepth 100000 in
theorem lifted (os : Os) (started : os.Started) (H : Type) (enc : TypeId × Value → H) :
    ReturnsInHanded {} Try.checked os 3 .any (Rows.posetTellsSpec.pre6 enc Try.prog Try.f3 Rows.posetTellsRow.domain false) (Rows.posetTellsSpec.post enc Try.prog Try.f3 false true false false) := by
  refine returnsInHanded_of_change_sized (C := Try.checked) own started (by kernel_rfl) Try.func3
    (ChangeSpec.witness6 (enc := enc) (C := Try.checked) false ⟨#[], #[.slice none 0 0], []⟩ 8 (by kernel_rfl) (by kernel_rfl) (by kernel_rfl) (by kernel_rfl)) ?_
  intro W base args ds gs before hval0 hW hcnd hsz0 _
  have hval : ∀ (j : Nat) t v, Try.f3.params[j]? = some t → args[j]? = some v → Value.okWide Try.prog W .any base t v := hval0
  have hsz : (DataW.weightsEach Try.prog (Try.f3.params.toList ++ Rows.posetTellsSpec.plain.varTypes Try.prog) (ds ++ gs)).all (· ≤ reachBytes) = true := hsz0
  have hW' := hW
  obtain ⟨p, q, hA0, hV, rfl, hfz, hnd⟩ := hW
  have hA : DataW.TrodAll enc Try.prog W 0 (fun _ => true) true Try.f3.params.toList args.toList ds p := hA0
  rw [Try.params3] at hA hval hsz
  obtain ⟨v0, vs0, d0, ds0, p0, q0, hargs, rfl, rfl, h0, r0⟩ := trodAll_cons hA
  obtain ⟨rfl, rfl, rfl⟩ := trodAll_nil r0
  obtain rfl : args = #[v0] := by cases args; simp_all
  obtain ⟨rfl, rfl⟩ := trodVars_none hV
  obtain ⟨a0, len0, cap0, rfl⟩ := okWide_slice Try.underlying22 (hval 0 22 v0 rfl rfl)
  have k0 := h0
  have lt0 : ∀ x ∈ p0, x.block < W.heap.size := by obtain ⟨m, hm⟩ := k0; exact DataW.trod_lt m _ _ _ hm
  obtain ⟨es0, hl0, hc0, hm0, hz0, rd0, hw0⟩ := open_ents_of k0 (fun n hn => by simpa using List.all_eq_true.1 hsz n (DataW.weights_mem_each (j := 0) rfl rfl n hn))
  clear hA0 hval0
  refine (walk_PosetTells W a0 es0 len0 cap0 hl0 hc0 hm0 hz0 rd0 hw0).mono fun e W' ⟨he, bel⟩ => ?_
  subst he
  exact ⟨_, rfl, _, _, _, [], _, [], hW', trodAll_mk1 (shut_bool Try.underlying4 _), (trodAll_cons_mk (Below.trod laidOut (by kernel_rfl) (of_decide_eq_true (by kernel_rfl)) k0 bel lt0) trodAll_mk0), rfl, bel.frame _, fun h => by cases h⟩
theorem over : Rows.posetTellsRow.holds Try.pinned (OpenSpec.ofChange Rows.posetTellsSpec) :=
  OpenClaim.holds_of_wide 3 Try.f3 rfl rfl rfl rfl rfl rfl rfl ⟨rfl, rfl, rfl, rfl, rfl⟩ rfl rfl rfl rfl rfl (by kernel_rfl) Try.func3 (by kernel_rfl)
    (of_decide_eq_true (by kernel_rfl)) (by unfold Func.isWrapper; first | (rw [if_pos (by decide +kernel)]; kernel_rfl) | (rw [if_neg (by decide +kernel)]; exact ⟨rfl, rfl⟩))
    (fun os started H enc _ => lifted os started H enc)
end posetTells
/-- THE STATEMENT. -/
theorem posetTells_holds : Rows.PosetTellsSaid := posetTells.over
#print axioms posetTells_holds
end Go.Proofs.Ytckabmlilbkmbaa
