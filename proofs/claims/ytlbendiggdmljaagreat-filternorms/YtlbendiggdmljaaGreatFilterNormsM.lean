/-
  An event meets a filter just if it meets its one form, and what has none is met by no event: for every row of predicates and every row of attributes the call of the law answers true, and all arguments read behind it as they read before. No condition.
-/
import Derived.Test.YtlbendiggdmljaaGreatM10
namespace Go.Proofs.YtlbendiggdmljaaGreat
open Go.RowKit Go.ChangeShapes Go.WideShapes Go.ChangeAt Go.Sort Spans
set_option maxRecDepth 100000 in
set_option maxHeartbeats 8000000 in
theorem walk_FilterNorms (w : World) (A : Option Addr) (f : List Pr) (n c : Nat) (hn : f.length = n) (hc : n ≤ c) (hm : c ≤ maxLen) (hr : RdQ w A f) (hl : ∀ a ∈ f, a.n.length ≤ maxLen ∧ a.t.length ≤ maxLen ∧ (Lit.int .i64 a.i).wf = true) (B : Option Addr) (es : List Ev.At) (m d : Nat) (hes : es.length = m) (hec : m ≤ d) (hem : d ≤ maxLen) (hre : RdA w B es) (hle : ∀ a ∈ es, a.n.length ≤ maxLen ∧ a.t.length ≤ maxLen ∧ (Lit.int .i64 a.i).wf = true) :
    Calls Tryz.prog 5 #[.slice A n c, .slice B m d] w fun e w' => e = .returned (.bool true) ∧ Below w.heap.size w w' := by
  rw [maxLen_num] at hm
  have HL2 : Hid (∀ p ∈ f, p.n.length ≤ 9223372036854775807 ∧ p.t.length ≤ 9223372036854775807) := fun p hp => by have := hl p hp; rw [maxLen_num] at this; exact ⟨this.1, this.2.1⟩
  have HL3 : Hid (∀ p ∈ f, -9223372036854775808 ≤ p.i ∧ p.i ≤ 9223372036854775807) := fun p hp => bounds_i64 (hl p hp).2.2
  have HN := Lib.hid hn
  have HR := Lib.hid hr
  clear hn hl hr
  have HE := Lib.hid hes
  have HEB : Hid (∀ a ∈ es, a.n.length ≤ maxLen ∧ a.t.length ≤ maxLen) := fun a ha => ⟨(hle a ha).1, (hle a ha).2.1⟩
  have HEI : Hid (∀ a ∈ es, -9223372036854775808 ≤ a.i ∧ a.i ≤ 9223372036854775807) := fun a ha => bounds_i64 (hle a ha).2.2
  have HRE := Lib.hid hre
  have HMM : Hid (m ≤ maxLen) := Nat.le_trans hec hem
  clear hes hle hre hem
  go_enter Tryz.func5, Tryz.ntmps5
  go_wp2_with fail
  refine (small_at w).mono ?_
  rintro e w1 ⟨rfl, hB1⟩
  have HB1 := Lib.hid hB1
  have HR1 := Lib.hid (RdK.below HR.out hB1)
  have HE1 := Lib.hid (HRE.out.below hB1)
  clear hB1
  cases hfw : fewP f with
  | false =>
    have HFW := Lib.hid hfw
    clear hfw
    go_wp2_with fail
    refine (few_at A f n c HN.out (by omega) HL2.out w1 HR1.out false HFW.out).mono ?_
    rintro e w2 ⟨rfl, rfl⟩
    go_wp2_with fail
    refine (efew_at B es m d HE.out HMM.out HEB.out w2 HE1.out).mono ?_
    rintro e w3 ⟨rfl, rfl⟩
    go_wp2_with fail
    go_ret
    exact ⟨rfl, HB1.out⟩
  | true =>
    have HFW := Lib.hid hfw
    obtain ⟨hpb, h24⟩ := pbd_few hfw HL3.out
    have HPB := Lib.hid hpb
    have hn24 : n ≤ 24 := by rw [HN.out] at h24; exact h24
    clear hfw hpb h24
    go_wp2_with fail
    refine (few_at A f n c HN.out (by omega) HL2.out w1 HR1.out true HFW.out).mono ?_
    rintro e w2 ⟨rfl, rfl⟩
    go_wp2_with fail
    refine (efew_at B es m d HE.out HMM.out HEB.out w2 HE1.out).mono ?_
    rintro e w3 ⟨rfl, rfl⟩
    by_cases hev : Ev.Few es
    · have hd : decide (Ev.Few es) = true := decide_eq_true hev
      rw [hd]
      clear hd hev
      go_wp2_with fail
      refine (eright_at B es m d HE.out HMM.out HEB.out w3 HE1.out).mono ?_
      rintro e w4 ⟨rfl, hg4⟩
      have HB4 := Lib.hid (below_next HB1.out (Nat.le_refl _) hg4.below)
      have HR4 := Lib.hid (RdK.below HR1.out hg4.below)
      have HE4 := Lib.hid (HE1.out.below hg4.below)
      clear hg4 HB1 HR1 HE1
      by_cases hri : Ev.Right es
      · have hd : decide (Ev.Right es) = true := decide_eq_true hri
        rw [hd]
        have HEV : Hid (Fil.EvR es) := ⟨hri, HEI.out⟩
        clear hd hri
        go_wp2_with fail
        refine (norm_at A f n c HN.out (by omega) HPB.out w4 HR4.out).mono ?_
        rintro e w5 ⟨out, er, A5, n5, c5, rfl, hno, hl5, hc5, ho5, hb5⟩
        have HB5 := Lib.hid (below_next HB4.out (Nat.le_refl _) hb5)
        have HR5 := Lib.hid (RdK.below HR4.out hb5)
        have HE5 := Lib.hid (HE4.out.below hb5)
        have HNO := Lib.hid hno
        have HL5 := Lib.hid hl5
        obtain ⟨_, _, e1, _, hrd⟩ := OwnK.rd ho5
        injection e1 with e1 e2 e3
        subst e1
        have HO5 := Lib.hid hrd
        clear hno hl5 ho5 hb5 hrd e2 e3 HB4 HR4 HE4
        rcases HNO.out.err with he | he | he | he
        · subst he
          obtain ⟨S, L, hg⟩ := HNO.out.good
          have HG := Lib.hid hg
          have HPO := Lib.hid (pbd_right hg.again.sound.2)
          have hn5 : n5 ≤ 24 := by rw [← HL5.out]; exact hg.len
          clear hg
          go_wp2_with fail
          refine (norm_at A5 out n5 c5 HL5.out (by omega) HPO.out w5 HO5.out).mono ?_
          rintro e w6 ⟨out', er', A6, n6, c6, rfl, hno6, hl6, hc6, ho6, hb6⟩
          obtain ⟨rfl, rfl⟩ := hno6.one HG.out.again.norm
          have HB6 := Lib.hid (below_next HB5.out (Nat.le_refl _) hb6)
          have HR6 := Lib.hid (RdK.below HR5.out hb6)
          have HE6 := Lib.hid (HE5.out.below hb6)
          have HO6 := Lib.hid (RdK.below HO5.out hb6)
          have HL6 := Lib.hid hl6
          obtain ⟨_, _, e1, _, hrd⟩ := OwnK.rd ho6
          injection e1 with e1 e2 e3
          subst e1
          have HX6 := Lib.hid hrd
          have hn6 : n6 ≤ 24 := by rw [← HL6.out, HL5.out]; exact hn5
          clear hno6 hl6 ho6 hb6 hrd e2 e3 HB5 HR5 HE5 HO5
          obtain ⟨q, hq⟩ : ∃ q, Fil.meets f es = q := ⟨_, rfl⟩
          have HQ := Lib.hid hq
          have HQ' : Hid (Fil.meets out' es = q) := by rw [HG.out.meets HEV.out]; exact hq
          clear hq
          go_wp2_with fail
          refine (fmeets_at A5 out' n5 c5 HL5.out (by omega) HPO.out B es m d HE.out HMM.out HEB.out w6 HO6.out HE6.out q HQ'.out).mono ?_
          rintro e w7 ⟨rfl, hb7⟩
          have HB7 := Lib.hid (below_next HB6.out (Nat.le_refl _) hb7)
          have HR7 := Lib.hid (RdK.below HR6.out hb7)
          have HE7 := Lib.hid (HE6.out.below hb7)
          have HO7 := Lib.hid (RdK.below HO6.out hb7)
          have HX7 := Lib.hid (RdK.below HX6.out hb7)
          clear hb7 HB6 HR6 HE6 HO6 HX6
          go_wp2_with fail
          refine (fmeets_at A f n c HN.out (by omega) HPB.out B es m d HE.out HMM.out HEB.out w7 HR7.out HE7.out q HQ.out).mono ?_
          rintro e w8 ⟨rfl, hb8⟩
          have HB8 := Lib.hid (below_next HB7.out (Nat.le_refl _) hb8)
          have HO8 := Lib.hid (RdK.below HO7.out hb8)
          have HX8 := Lib.hid (RdK.below HX7.out hb8)
          clear hb8 HB7 HR7 HE7 HO7 HX7
          go_wp2_with fail
          refine (fright_at A5 out' n5 c5 HL5.out (by omega) HPO.out w8 HO8.out).mono ?_
          rintro e w9 ⟨q9, rfl, hq9, hb9⟩
          obtain rfl : q9 = true := hq9.2 HG.out.again.norm
          have HB9 := Lib.hid (below_next HB8.out (Nat.le_refl _) hb9)
          have HO9 := Lib.hid (RdK.below HO8.out hb9)
          have HX9 := Lib.hid (RdK.below HX8.out hb9)
          clear hb9 hq9 HB8 HO8 HX8
          go_wp2_with fail
          refine (samePs_at A5 out' n5 c5 HL5.out (by omega) A6 out' n6 c6 HL6.out (by omega) w9 HO9.out HX9.out true (by simp)).mono ?_
          rintro e w10 ⟨rfl, hg10⟩
          have HB10 := Lib.hid (below_next HB9.out (Nat.le_refl _) hg10.below)
          clear hg10
          go_wp2_with fail
          go_ret
          exact ⟨rfl, HB10.out⟩
        · subst he
          obtain rfl := HNO.out.bad (by decide)
          obtain rfl : n5 = 0 := HL5.out.symm
          go_wp2_with fail
          go_ret
          exact ⟨rfl, HB5.out⟩
        · subst he
          obtain rfl := HNO.out.bad (by decide)
          obtain rfl : n5 = 0 := HL5.out.symm
          go_wp2_with fail
          go_ret
          exact ⟨rfl, HB5.out⟩
        · subst he
          obtain rfl := HNO.out.bad (by decide)
          obtain rfl : n5 = 0 := HL5.out.symm
          obtain ⟨_, S, hS, hV⟩ := HNO.out.void
          have HQ := Lib.hid (Fil.void_meets hS HEV.out hV)
          clear hS hV
          go_wp2_with fail
          refine (fmeets_at A f n c HN.out (by omega) HPB.out B es m d HE.out HMM.out HEB.out w5 HR5.out HE5.out false HQ.out).mono ?_
          rintro e w7 ⟨rfl, hb7⟩
          have HB7 := Lib.hid (below_next HB5.out (Nat.le_refl _) hb7)
          clear hb7
          go_wp2_with fail
          go_ret
          exact ⟨rfl, HB7.out⟩
      · have hd : decide (Ev.Right es) = false := decide_eq_false hri
        rw [hd]
        clear hd hri
        go_wp2_with fail
        go_ret
        exact ⟨rfl, HB4.out⟩
    · have hd : decide (Ev.Few es) = false := decide_eq_false hev
      rw [hd]
      clear hd hev
      go_wp2_with fail
      go_ret
      exact ⟨rfl, HB1.out⟩

/-! ### The row's step. -/
namespace filterNorms
theorem own : ownKnob Tryz.prog.godebug = none := by kernel_rfl
theorem laidOut : laidOutB Tryz.prog = true := by kernel_rfl
set_option linter.unusedVariables false in
set_option maxRecDepth 100000 in
theorem lifted (os : Os) (started : os.Started) (H : Type) (enc : TypeId × Value → H) :
    ReturnsInHanded {} Tryz.checked os 5 .any (Rows.filterNormsSpec.pre6 enc Tryz.prog Tryz.f5 Rows.filterNormsRow.domain false) (Rows.filterNormsSpec.post enc Tryz.prog Tryz.f5 false true false false) := by
  refine returnsInHanded_of_change_sized (C := Tryz.checked) own started (by kernel_rfl) Tryz.func5
    (ChangeSpec.witness6 (enc := enc) (C := Tryz.checked) false ⟨#[], #[.slice none 0 0, .slice none 0 0], []⟩ 8 (by kernel_rfl) (by kernel_rfl) (by kernel_rfl) (by kernel_rfl)) ?_
  intro W base args ds gs before hval0 hW hcnd hsz0 _
  have hval : ∀ (j : Nat) t v, Tryz.f5.params[j]? = some t → args[j]? = some v → Value.okWide Tryz.prog W .any base t v := hval0
  have hsz : (DataW.weightsEach Tryz.prog (Tryz.f5.params.toList ++ Rows.filterNormsSpec.plain.varTypes Tryz.prog) (ds ++ gs)).all (· ≤ reachBytes) = true := hsz0
  have hW' := hW
  obtain ⟨p, q, hA0, hV, rfl, hfz, hnd⟩ := hW
  have hA : DataW.TrodAll enc Tryz.prog W 0 (fun _ => true) true Tryz.f5.params.toList args.toList ds p := hA0
  rw [Tryz.params5] at hA hval hsz
  obtain ⟨v0, vs0, d0, ds0, p0, q0, hargs, rfl, rfl, h0, r0⟩ := trodAll_cons hA
  obtain ⟨v1, vs1, d1, ds1, p1, q1, rfl, rfl, rfl, h1, r1⟩ := trodAll_cons r0
  obtain ⟨rfl, rfl, rfl⟩ := trodAll_nil r1
  obtain rfl : args = #[v0, v1] := by cases args; simp_all
  obtain ⟨rfl, rfl⟩ := trodVars_none hV
  obtain ⟨a0, len0, cap0, rfl⟩ := okWide_slice Tryz.underlying22 (hval 0 22 v0 rfl rfl)
  have k0 := h0
  have lt0 : ∀ x ∈ p0, x.block < W.heap.size := by obtain ⟨m, hm⟩ := k0; exact DataW.trod_lt m _ _ _ hm
  obtain ⟨es0, hl0, hc0, hm0, rd0, hw0⟩ := open_preds_of Tryz.underlying22 Tryz.underlying35 (by kernel_rfl) ⟨rfl, rfl, by kernel_rfl⟩ ⟨rfl, rfl, by kernel_rfl⟩ ⟨rfl, rfl, by kernel_rfl⟩ Tryz.underlying9 Tryz.underlying3 Tryz.underlying33 ⟨rfl, rfl, by kernel_rfl⟩ ⟨rfl, rfl, by kernel_rfl⟩ ⟨rfl, rfl, by kernel_rfl⟩ Tryz.underlying3 Tryz.underlying3 Tryz.underlying9 k0
  obtain ⟨a1, len1, cap1, rfl⟩ := okWide_slice Tryz.underlying23 (hval 1 23 v1 rfl rfl)
  have k1 := h1
  have lt1 : ∀ x ∈ p1, x.block < W.heap.size := by obtain ⟨m, hm⟩ := k1; exact DataW.trod_lt m _ _ _ hm
  obtain ⟨es1, hl1, hc1, hm1, rd1, hw1⟩ := open_attrs_w Tryz.underlying23 Tryz.underlying53 (by kernel_rfl) ⟨rfl, rfl, by kernel_rfl⟩ ⟨rfl, rfl, by kernel_rfl⟩ Tryz.underlying9 Tryz.underlying33 ⟨rfl, rfl, by kernel_rfl⟩ ⟨rfl, rfl, by kernel_rfl⟩ ⟨rfl, rfl, by kernel_rfl⟩ Tryz.underlying3 Tryz.underlying3 Tryz.underlying9 k1
  clear hA0 hval0
  refine (walk_FilterNorms W a0 es0 len0 cap0 hl0 hc0 hm0 rd0 hw0 a1 es1 len1 cap1 hl1 hc1 hm1 rd1 hw1).mono fun e W' ⟨he, bel⟩ => ?_
  subst he
  exact ⟨_, rfl, _, _, _, [], _, [], hW', trodAll_mk1 (shut_bool Tryz.underlying4 _), (trodAll_cons_mk (Below.trod laidOut (by kernel_rfl) (of_decide_eq_true (by kernel_rfl)) k0 bel lt0) (trodAll_cons_mk (Below.trod laidOut (by kernel_rfl) (of_decide_eq_true (by kernel_rfl)) k1 bel lt1) trodAll_mk0)), rfl, bel.frame _, fun h => by cases h⟩
theorem over : Rows.filterNormsRow.holds Tryz.pinned (OpenSpec.ofChange Rows.filterNormsSpec) :=
  OpenClaim.holds_of_wide 5 Tryz.f5 rfl rfl rfl rfl rfl rfl rfl ⟨rfl, rfl, rfl, rfl, rfl⟩ rfl rfl rfl rfl rfl (by kernel_rfl) Tryz.func5 (by kernel_rfl)
    (of_decide_eq_true (by kernel_rfl)) (by unfold Func.isWrapper; first | (rw [if_pos (by decide +kernel)]; kernel_rfl) | (rw [if_neg (by decide +kernel)]; exact ⟨rfl, rfl⟩))
    (fun os started H enc _ => lifted os started H enc)
end filterNorms
/-- THE STATEMENT. -/
theorem filterNorms_holds : Rows.FilterNormsSaid := filterNorms.over
#print axioms filterNorms_holds
end Go.Proofs.YtlbendiggdmljaaGreat
