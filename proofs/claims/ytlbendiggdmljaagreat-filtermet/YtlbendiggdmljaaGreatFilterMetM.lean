/-
  Each filter that has a form is met by an event, which can be told: for every row of predicates the call of the law answers true, and all arguments read behind it as they read before. No condition.
-/
import Derived.Test.YtlbendiggdmljaaGreatM11
namespace Go.Proofs.YtlbendiggdmljaaGreat
open Go.RowKit Go.ChangeShapes Go.WideShapes Go.ChangeAt Go.Sort Spans
theorem vright_len {k i : Int} {t : List UInt8} (h : Vals.right k i t = true) : t.length ≤ 64 := by
  unfold Vals.right at h
  split at h
  · have : t.length = 0 := by simpa using h
    omega
  · split at h
    · simp at h; exact h.2
    · split at h
      · simp at h
        rw [h.1.1]
        simp
      · cases h
set_option maxRecDepth 100000 in
set_option maxHeartbeats 8000000 in
theorem walk_FilterMet (w : World) (A : Option Addr) (f : List Pr) (n c : Nat) (hn : f.length = n) (hc : n ≤ c) (hm : c ≤ maxLen) (hr : RdQ w A f) (hl : ∀ a ∈ f, a.n.length ≤ maxLen ∧ a.t.length ≤ maxLen ∧ (Lit.int .i64 a.i).wf = true) :
    Calls Tryz.prog 7 #[.slice A n c] w fun e w' => e = .returned (.bool true) ∧ Below w.heap.size w w' := by
  rw [maxLen_num] at hm
  have HL2 : Hid (∀ p ∈ f, p.n.length ≤ 9223372036854775807 ∧ p.t.length ≤ 9223372036854775807) := fun p hp => by have := hl p hp; rw [maxLen_num] at this; exact ⟨this.1, this.2.1⟩
  have HL3 : Hid (∀ p ∈ f, -9223372036854775808 ≤ p.i ∧ p.i ≤ 9223372036854775807) := fun p hp => bounds_i64 (hl p hp).2.2
  have HN := Lib.hid hn
  have HR := Lib.hid hr
  clear hn hl hr
  have BB : Hid (Below w.heap.size w w) := Below.refl _ _
  have RF := HR
  clear HR
  obtain ⟨w0, hw0⟩ : ∃ w0, w0 = w := ⟨_, rfl⟩
  rw [← hw0]
  rw [← hw0] at RF BB
  clear hw0
  go_enter Tryz.func7, Tryz.ntmps7
  go_wp2_with fail
  refine (small_at w0).mono ?_
  rintro e w1 ⟨rfl, hb⟩
  replace BB := Lib.hid (below_next BB.out (Nat.le_refl _) hb)
  replace RF := Lib.hid (RdK.below RF.out hb)
  clear hb
  cases hfw : fewP f with
  | false =>
    have HFf := Lib.hid hfw
    clear hfw
    go_wp2_with fail
    refine (few_at A f n c HN.out (by omega) HL2.out w1 RF.out false HFf.out).mono ?_
    rintro e w2 ⟨rfl, rfl⟩
    go_wp2_with fail
    go_ret
    exact ⟨rfl, BB.out⟩
  | true =>
    have HFf := Lib.hid hfw
    obtain ⟨hpb, h24⟩ := pbd_few hfw HL3.out
    have HPF := Lib.hid hpb
    have hf24 : n ≤ 24 := by rw [HN.out] at h24; exact h24
    clear hpb h24 hfw
    go_wp2_with fail
    refine (few_at A f n c HN.out (by omega) HL2.out w1 RF.out true HFf.out).mono ?_
    rintro e w2 ⟨rfl, rfl⟩
    go_wp2_with fail
    refine (norm_at A f n c HN.out (by omega) HPF.out w2 RF.out).mono ?_
    rintro e w3 ⟨out, er, A2, n2, c2, rfl, hno, hl, _, ho, hb⟩
    have HNO := Lib.hid hno
    have HL := Lib.hid hl
    obtain ⟨_, _, e1, _, hrd⟩ := OwnK.rd ho
    injection e1 with e1 e2 e3
    subst e1
    have RO := Lib.hid hrd
    clear hno hl ho hrd e2 e3
    replace BB := Lib.hid (below_next BB.out (Nat.le_refl _) hb)
    replace RF := Lib.hid (RdK.below RF.out hb)
    clear hb
    by_cases he : er = 0
    · subst he
      obtain ⟨S, L, hg⟩ := HNO.out.good
      have HG := Lib.hid hg
      have HPO := Lib.hid (pbd_right hg.again.sound.2)
      have hn2 : n2 ≤ 24 := by rw [← HL.out]; exact hg.len
      have HEV := Lib.hid hg.evR
      have HM : Hid (Fil.meets f (Fil.evOf L S) = true) := hg.meeting
      have HM2 : Hid (Fil.meets out (Fil.evOf L S) = true) := by rw [hg.meets hg.evR]; exact hg.meeting
      clear hg
      have HEB : Hid (∀ a ∈ Fil.evOf L S, a.n.length ≤ maxLen ∧ a.t.length ≤ maxLen) := fun a ha => by
        have h1 := HEV.out.1.2.1 a ha
        unfold Ev.ok at h1
        simp only [Bool.and_eq_true, decide_eq_true_eq] at h1
        have h2 := vright_len h1.2
        rw [maxLen_num]
        exact ⟨by omega, by omega⟩
      go_wp2_with fail
      refine (meeting_at f out S L HG.out A2 n2 c2 HL.out w3 RO.out).mono ?_
      rintro e w4 ⟨A3, m3, c3, rfl, hm3, hc3, hr3, hb⟩
      have RE := Lib.hid hr3
      have HM3 := Lib.hid hm3
      have hm24 : m3 ≤ 24 := by rw [← hm3]; exact HEV.out.1.1
      clear hr3 hm3
      replace BB := Lib.hid (below_next BB.out (Nat.le_refl _) hb)
      replace RF := Lib.hid (RdK.below RF.out hb)
      replace RO := Lib.hid (RdK.below RO.out hb)
      clear hb
      go_wp2_with fail
      have hd : decide (Ev.Right (Fil.evOf L S)) = true := decide_eq_true HEV.out.1
      refine (eright_at A3 (Fil.evOf L S) m3 c3 HM3.out (by rw [maxLen_num]; omega) HEB.out w4 RE.out).mono ?_
      rintro e w5 ⟨rfl, hg⟩
      have hb := hg.below
      clear hg
      rw [hd]
      clear hd
      replace BB := Lib.hid (below_next BB.out (Nat.le_refl _) hb)
      replace RF := Lib.hid (RdK.below RF.out hb)
      replace RO := Lib.hid (RdK.below RO.out hb)
      replace RE := Lib.hid (RdA.below RE.out hb)
      clear hb
      go_wp2_with fail
      refine (fmeets_at A2 out n2 c2 HL.out (by omega) HPO.out A3 (Fil.evOf L S) m3 c3 HM3.out (by rw [maxLen_num]; omega) HEB.out w5 RO.out RE.out true HM2.out).mono ?_
      rintro e w6 ⟨rfl, hb⟩
      replace BB := Lib.hid (below_next BB.out (Nat.le_refl _) hb)
      replace RF := Lib.hid (RdK.below RF.out hb)
      replace RO := Lib.hid (RdK.below RO.out hb)
      replace RE := Lib.hid (RdA.below RE.out hb)
      clear hb
      go_wp2_with fail
      refine (fmeets_at A f n c HN.out (by omega) HPF.out A3 (Fil.evOf L S) m3 c3 HM3.out (by rw [maxLen_num]; omega) HEB.out w6 RF.out RE.out true HM.out).mono ?_
      rintro e w7 ⟨rfl, hb⟩
      replace BB := Lib.hid (below_next BB.out (Nat.le_refl _) hb)
      replace RF := Lib.hid (RdK.below RF.out hb)
      replace RO := Lib.hid (RdK.below RO.out hb)
      replace RE := Lib.hid (RdA.below RE.out hb)
      clear hb
      go_wp2_with fail
      go_ret
      exact ⟨rfl, BB.out⟩
    · have v0 : (er != 0) = true := by simpa using he
      clear he
      go_wp2_with fail
      go_ret
      exact ⟨rfl, BB.out⟩

/-! ### The row's step. -/
namespace filterMet
theorem own : ownKnob Tryz.prog.godebug = none := by kernel_rfl
theorem laidOut : laidOutB Tryz.prog = true := by kernel_rfl
set_option linter.unusedVariables false in
set_option maxRecDepth 100000 in
theorem lifted (os : Os) (started : os.Started) (H : Type) (enc : TypeId × Value → H) :
    ReturnsInHanded {} Tryz.checked os 7 .any (Rows.filterMetSpec.pre6 enc Tryz.prog Tryz.f7 Rows.filterMetRow.domain false) (Rows.filterMetSpec.post enc Tryz.prog Tryz.f7 false true false false) := by
  refine returnsInHanded_of_change_sized (C := Tryz.checked) own started (by kernel_rfl) Tryz.func7
    (ChangeSpec.witness6 (enc := enc) (C := Tryz.checked) false ⟨#[], #[.slice none 0 0], []⟩ 8 (by kernel_rfl) (by kernel_rfl) (by kernel_rfl) (by kernel_rfl)) ?_
  intro W base args ds gs before hval0 hW hcnd hsz0 _
  have hval : ∀ (j : Nat) t v, Tryz.f7.params[j]? = some t → args[j]? = some v → Value.okWide Tryz.prog W .any base t v := hval0
  have hsz : (DataW.weightsEach Tryz.prog (Tryz.f7.params.toList ++ Rows.filterMetSpec.plain.varTypes Tryz.prog) (ds ++ gs)).all (· ≤ reachBytes) = true := hsz0
  have hW' := hW
  obtain ⟨p, q, hA0, hV, rfl, hfz, hnd⟩ := hW
  have hA : DataW.TrodAll enc Tryz.prog W 0 (fun _ => true) true Tryz.f7.params.toList args.toList ds p := hA0
  rw [Tryz.params7] at hA hval hsz
  obtain ⟨v0, vs0, d0, ds0, p0, q0, hargs, rfl, rfl, h0, r0⟩ := trodAll_cons hA
  obtain ⟨rfl, rfl, rfl⟩ := trodAll_nil r0
  obtain rfl : args = #[v0] := by cases args; simp_all
  obtain ⟨rfl, rfl⟩ := trodVars_none hV
  obtain ⟨a0, len0, cap0, rfl⟩ := okWide_slice Tryz.underlying22 (hval 0 22 v0 rfl rfl)
  have k0 := h0
  have lt0 : ∀ x ∈ p0, x.block < W.heap.size := by obtain ⟨m, hm⟩ := k0; exact DataW.trod_lt m _ _ _ hm
  obtain ⟨es0, hl0, hc0, hm0, rd0, hw0⟩ := open_preds_of Tryz.underlying22 Tryz.underlying35 (by kernel_rfl) ⟨rfl, rfl, by kernel_rfl⟩ ⟨rfl, rfl, by kernel_rfl⟩ ⟨rfl, rfl, by kernel_rfl⟩ Tryz.underlying9 Tryz.underlying3 Tryz.underlying33 ⟨rfl, rfl, by kernel_rfl⟩ ⟨rfl, rfl, by kernel_rfl⟩ ⟨rfl, rfl, by kernel_rfl⟩ Tryz.underlying3 Tryz.underlying3 Tryz.underlying9 k0
  clear hA0 hval0
  refine (walk_FilterMet W a0 es0 len0 cap0 hl0 hc0 hm0 rd0 hw0).mono fun e W' ⟨he, bel⟩ => ?_
  subst he
  exact ⟨_, rfl, _, _, _, [], _, [], hW', trodAll_mk1 (shut_bool Tryz.underlying4 _), (trodAll_cons_mk (Below.trod laidOut (by kernel_rfl) (of_decide_eq_true (by kernel_rfl)) k0 bel lt0) trodAll_mk0), rfl, bel.frame _, fun h => by cases h⟩
theorem over : Rows.filterMetRow.holds Tryz.pinned (OpenSpec.ofChange Rows.filterMetSpec) :=
  OpenClaim.holds_of_wide 7 Tryz.f7 rfl rfl rfl rfl rfl rfl rfl ⟨rfl, rfl, rfl, rfl, rfl⟩ rfl rfl rfl rfl rfl (by kernel_rfl) Tryz.func7 (by kernel_rfl)
    (of_decide_eq_true (by kernel_rfl)) (by unfold Func.isWrapper; first | (rw [if_pos (by decide +kernel)]; kernel_rfl) | (rw [if_neg (by decide +kernel)]; exact ⟨rfl, rfl⟩))
    (fun os started H enc _ => lifted os started H enc)
end filterMet
/-- THE STATEMENT. -/
theorem filterMet_holds : Rows.FilterMetSaid := filterMet.over
#print axioms filterMet_holds
end Go.Proofs.YtlbendiggdmljaaGreat
