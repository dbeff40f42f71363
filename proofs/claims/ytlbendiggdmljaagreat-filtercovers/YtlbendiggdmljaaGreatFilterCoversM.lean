/-
  What covers is met by all that meets what is covered, and two that cover each other have one form: for every two rows of predicates and every row of attributes the call of the law answers true, and all arguments read behind it as they read before. No condition.
-/
import Derived.Test.YtlbendiggdmljaaGreatM10
namespace Go.Proofs.YtlbendiggdmljaaGreat
open Go.RowKit Go.ChangeShapes Go.WideShapes Go.ChangeAt Go.Sort Spans
set_option maxRecDepth 100000 in
set_option maxHeartbeats 8000000 in
theorem walk_FilterCovers (w : World) (A : Option Addr) (f : List Pr) (n c : Nat) (hn : f.length = n) (hc : n ≤ c) (hm : c ≤ maxLen) (hr : RdQ w A f) (hl : ∀ a ∈ f, a.n.length ≤ maxLen ∧ a.t.length ≤ maxLen ∧ (Lit.int .i64 a.i).wf = true) (A' : Option Addr) (g : List Pr) (n' c' : Nat) (hn' : g.length = n') (hc' : n' ≤ c') (hm' : c' ≤ maxLen) (hr' : RdQ w A' g) (hl' : ∀ a ∈ g, a.n.length ≤ maxLen ∧ a.t.length ≤ maxLen ∧ (Lit.int .i64 a.i).wf = true) (B : Option Addr) (es : List Ev.At) (m d : Nat) (hes : es.length = m) (hec : m ≤ d) (hem : d ≤ maxLen) (hre : RdA w B es) (hle : ∀ a ∈ es, a.n.length ≤ maxLen ∧ a.t.length ≤ maxLen ∧ (Lit.int .i64 a.i).wf = true) :
    Calls Tryz.prog 6 #[.slice A n c, .slice A' n' c', .slice B m d] w fun e w' => e = .returned (.bool true) ∧ Below w.heap.size w w' := by
  rw [maxLen_num] at hm
  have HL2 : Hid (∀ p ∈ f, p.n.length ≤ 9223372036854775807 ∧ p.t.length ≤ 9223372036854775807) := fun p hp => by have := hl p hp; rw [maxLen_num] at this; exact ⟨this.1, this.2.1⟩
  have HL3 : Hid (∀ p ∈ f, -9223372036854775808 ≤ p.i ∧ p.i ≤ 9223372036854775807) := fun p hp => bounds_i64 (hl p hp).2.2
  have HN := Lib.hid hn
  have HR := Lib.hid hr
  clear hn hl hr
  rw [maxLen_num] at hm'
  have HL2' : Hid (∀ p ∈ g, p.n.length ≤ 9223372036854775807 ∧ p.t.length ≤ 9223372036854775807) := fun p hp => by have := hl' p hp; rw [maxLen_num] at this; exact ⟨this.1, this.2.1⟩
  have HL3' : Hid (∀ p ∈ g, -9223372036854775808 ≤ p.i ∧ p.i ≤ 9223372036854775807) := fun p hp => bounds_i64 (hl' p hp).2.2
  have HN' := Lib.hid hn'
  have HR' := Lib.hid hr'
  clear hn' hl' hr'
  have HE := Lib.hid hes
  have HEB : Hid (∀ a ∈ es, a.n.length ≤ maxLen ∧ a.t.length ≤ maxLen) := fun a ha => ⟨(hle a ha).1, (hle a ha).2.1⟩
  have HEI : Hid (∀ a ∈ es, -9223372036854775808 ≤ a.i ∧ a.i ≤ 9223372036854775807) := fun a ha => bounds_i64 (hle a ha).2.2
  have HRE := Lib.hid hre
  have HMM : Hid (m ≤ maxLen) := Nat.le_trans hec hem
  clear hes hle hre hem
  have BB : Hid (Below w.heap.size w w) := Below.refl _ _
  have RF := HR
  have RG := HR'
  have RE := HRE
  clear HR HR' HRE
  obtain ⟨w0, hw0⟩ : ∃ w0, w0 = w := ⟨_, rfl⟩
  rw [← hw0]
  rw [← hw0] at RF RG RE BB
  clear hw0
  go_enter Tryz.func6, Tryz.ntmps6
  go_wp2_with fail
  refine (small_at w0).mono ?_
  rintro e w1 ⟨rfl, hb⟩
  replace BB := Lib.hid (below_next BB.out (Nat.le_refl _) hb)
  replace RF := Lib.hid (RdK.below RF.out hb)
  replace RG := Lib.hid (RdK.below RG.out hb)
  replace RE := Lib.hid (RdA.below RE.out hb)
  clear hb
  cases hfw : fewP f with
  | false =>
    have HFf := Lib.hid hfw
    clear hfw
    go_wp2_with fail
    refine (few_at A f n c HN.out (by omega) HL2.out w1 RF.out false HFf.out).mono ?_
    rintro e w2 ⟨rfl, rfl⟩
    go_wp2_with fail
    refine (few_at A' g n' c' HN'.out (by omega) HL2'.out w2 RG.out _ rfl).mono ?_
    rintro e w3 ⟨rfl, rfl⟩
    go_wp2_with fail
    refine (efew_at B es m d HE.out HMM.out HEB.out w3 RE.out).mono ?_
    rintro e w4 ⟨rfl, rfl⟩
    go_wp2_with fail
    go_ret
    exact ⟨rfl, BB.out⟩
  | true =>
    have HFf := Lib.hid hfw
    obtain ⟨hpb, h24⟩ := pbd_few hfw HL3.out
    have HPF := Lib.hid hpb
    have hf24 : n ≤ 24 := by rw [HN.out] at h24; exact h24
    clear hpb h24
    clear hfw
    go_wp2_with fail
    refine (few_at A f n c HN.out (by omega) HL2.out w1 RF.out true HFf.out).mono ?_
    rintro e w2 ⟨rfl, rfl⟩
    cases hfw : fewP g with
    | false =>
      have HFg := Lib.hid hfw
      clear hfw
      go_wp2_with fail
      refine (few_at A' g n' c' HN'.out (by omega) HL2'.out w2 RG.out false HFg.out).mono ?_
      rintro e w3 ⟨rfl, rfl⟩
      go_wp2_with fail
      refine (efew_at B es m d HE.out HMM.out HEB.out w3 RE.out).mono ?_
      rintro e w4 ⟨rfl, rfl⟩
      go_wp2_with fail
      go_ret
      exact ⟨rfl, BB.out⟩
    | true =>
      have HFg := Lib.hid hfw
      obtain ⟨hpb, h24⟩ := pbd_few hfw HL3'.out
      have HPG := Lib.hid hpb
      have hg24 : n' ≤ 24 := by rw [HN'.out] at h24; exact h24
      clear hpb h24
      clear hfw
      go_wp2_with fail
      refine (few_at A' g n' c' HN'.out (by omega) HL2'.out w2 RG.out true HFg.out).mono ?_
      rintro e w3 ⟨rfl, rfl⟩
      go_wp2_with fail
      refine (efew_at B es m d HE.out HMM.out HEB.out w3 RE.out).mono ?_
      rintro e w4 ⟨rfl, rfl⟩
      by_cases hev : Ev.Few es
      · have hd : decide (Ev.Few es) = true := decide_eq_true hev
        rw [hd]
        clear hd hev
        go_wp2_with fail
        refine (eright_at B es m d HE.out HMM.out HEB.out w4 RE.out).mono ?_
        rintro e w5 ⟨rfl, hg⟩
        have hb := hg.below
        clear hg
        replace BB := Lib.hid (below_next BB.out (Nat.le_refl _) hb)
        replace RF := Lib.hid (RdK.below RF.out hb)
        replace RG := Lib.hid (RdK.below RG.out hb)
        replace RE := Lib.hid (RdA.below RE.out hb)
        clear hb
        by_cases hri : Ev.Right es
        · have hd : decide (Ev.Right es) = true := decide_eq_true hri
          rw [hd]
          have HEV : Hid (Fil.EvR es) := ⟨hri, HEI.out⟩
          clear hd hri
          go_wp2_with fail
          refine (norm_at A f n c HN.out (by omega) HPF.out w5 RF.out).mono ?_
          rintro e w6 ⟨outp, erp, Ap, np, cp, rfl, hno, hl, _, ho, hb⟩
          have HNOp := Lib.hid hno
          have HLp := Lib.hid hl
          obtain ⟨_, _, e1, _, hrd⟩ := OwnK.rd ho
          injection e1 with e1 e2 e3
          subst e1
          have Rp := Lib.hid hrd
          clear hno hl ho hrd e2 e3
          replace BB := Lib.hid (below_next BB.out (Nat.le_refl _) hb)
          replace RF := Lib.hid (RdK.below RF.out hb)
          replace RG := Lib.hid (RdK.below RG.out hb)
          replace RE := Lib.hid (RdA.below RE.out hb)
          clear hb
          go_wp2_with fail
          refine (norm_at A' g n' c' HN'.out (by omega) HPG.out w6 RG.out).mono ?_
          rintro e w7 ⟨outq, erq, Aq, nq, cq, rfl, hno, hl, _, ho, hb⟩
          have HNOq := Lib.hid hno
          have HLq := Lib.hid hl
          obtain ⟨_, _, e1, _, hrd⟩ := OwnK.rd ho
          injection e1 with e1 e2 e3
          subst e1
          have Rq := Lib.hid hrd
          clear hno hl ho hrd e2 e3
          replace BB := Lib.hid (below_next BB.out (Nat.le_refl _) hb)
          replace RF := Lib.hid (RdK.below RF.out hb)
          replace RG := Lib.hid (RdK.below RG.out hb)
          replace RE := Lib.hid (RdA.below RE.out hb)
          replace Rp := Lib.hid (RdK.below Rp.out hb)
          clear hb
          go_wp2_with fail
          by_cases hcv : Fil.Cov f g
          · have HCV := Lib.hid hcv
            clear hcv
            refine (covers_at A f n c HN.out (by omega) HPF.out A' g n' c' HN'.out (by omega) HPG.out w7 RF.out RG.out).mono ?_
            rintro e w8 ⟨q8, rfl, hq, hb⟩
            obtain rfl : q8 = true := hq.2 HCV.out
            clear hq
            replace BB := Lib.hid (below_next BB.out (Nat.le_refl _) hb)
            replace RF := Lib.hid (RdK.below RF.out hb)
            replace RG := Lib.hid (RdK.below RG.out hb)
            replace RE := Lib.hid (RdA.below RE.out hb)
            replace Rp := Lib.hid (RdK.below Rp.out hb)
            replace Rq := Lib.hid (RdK.below Rq.out hb)
            clear hb
            cases hmg : Fil.meets g es with
            | true =>
              have HMG := Lib.hid hmg
              clear hmg
              go_wp2_with fail
              refine (fmeets_at A' g n' c' HN'.out (by omega) HPG.out B es m d HE.out HMM.out HEB.out w8 RG.out RE.out true HMG.out).mono ?_
              rintro e w9 ⟨rfl, hb⟩
              replace BB := Lib.hid (below_next BB.out (Nat.le_refl _) hb)
              replace RF := Lib.hid (RdK.below RF.out hb)
              replace RG := Lib.hid (RdK.below RG.out hb)
              replace RE := Lib.hid (RdA.below RE.out hb)
              replace Rp := Lib.hid (RdK.below Rp.out hb)
              replace Rq := Lib.hid (RdK.below Rq.out hb)
              clear hb
              have HMF : Hid (Fil.meets f es = true) := HCV.out.meets HEV.out HMG.out
              go_wp2_with fail
              refine (fmeets_at A f n c HN.out (by omega) HPF.out B es m d HE.out HMM.out HEB.out w9 RF.out RE.out true HMF.out).mono ?_
              rintro e w10 ⟨rfl, hb⟩
              replace BB := Lib.hid (below_next BB.out (Nat.le_refl _) hb)
              replace RF := Lib.hid (RdK.below RF.out hb)
              replace RG := Lib.hid (RdK.below RG.out hb)
              replace RE := Lib.hid (RdA.below RE.out hb)
              replace Rp := Lib.hid (RdK.below Rp.out hb)
              replace Rq := Lib.hid (RdK.below Rq.out hb)
              clear hb
              by_cases hp0 : erp = 0
              · subst hp0
                by_cases hq0 : erq = 0
                · subst hq0
                  obtain ⟨S, L, hgf⟩ := HNOp.out.good
                  obtain ⟨T, M, hgg⟩ := HNOq.out.good
                  have HCC := Lib.hid (hgf.cov hgg)
                  have HCS := Lib.hid hgf.cov_self
                  have HPP := Lib.hid (pbd_right hgf.again.sound.2)
                  have hnp : np ≤ 24 := by rw [← HLp.out]; exact hgf.len
                  have hnq : nq ≤ 24 := by rw [← HLq.out]; exact hgg.len
                  clear hgf hgg
                  go_wp2_with fail
                  refine (covers_at A f n c HN.out (by omega) HPF.out A' g n' c' HN'.out (by omega) HPG.out w10 RF.out RG.out).mono ?_
                  rintro e w11 ⟨q11, rfl, hq, hb⟩
                  obtain rfl : q11 = true := hq.2 HCV.out
                  clear hq
                  replace BB := Lib.hid (below_next BB.out (Nat.le_refl _) hb)
                  replace RF := Lib.hid (RdK.below RF.out hb)
                  replace RG := Lib.hid (RdK.below RG.out hb)
                  replace RE := Lib.hid (RdA.below RE.out hb)
                  replace Rp := Lib.hid (RdK.below Rp.out hb)
                  replace Rq := Lib.hid (RdK.below Rq.out hb)
                  clear hb
                  by_cases hgf : Fil.Cov g f
                  · have HGF := Lib.hid hgf
                    have HSM : Hid (decide (outp = outq) = true) := decide_eq_true (HCC.out.1 ⟨HCV.out, hgf⟩)
                    clear hgf
                    go_wp2_with fail
                    refine (covers_at A' g n' c' HN'.out (by omega) HPG.out A f n c HN.out (by omega) HPF.out w11 RG.out RF.out).mono ?_
                    rintro e w12 ⟨q12, rfl, hq, hb⟩
                    obtain rfl : q12 = true := hq.2 HGF.out
                    clear hq
                    replace BB := Lib.hid (below_next BB.out (Nat.le_refl _) hb)
                    replace RF := Lib.hid (RdK.below RF.out hb)
                    replace RG := Lib.hid (RdK.below RG.out hb)
                    replace RE := Lib.hid (RdA.below RE.out hb)
                    replace Rp := Lib.hid (RdK.below Rp.out hb)
                    replace Rq := Lib.hid (RdK.below Rq.out hb)
                    clear hb
                    go_wp2_with fail
                    refine (samePs_at Ap outp np cp HLp.out (by omega) Aq outq nq cq HLq.out (by omega) w12 Rp.out Rq.out true HSM.out).mono ?_
                    rintro e w13 ⟨rfl, hg⟩
                    have hb := hg.below
                    clear hg
                    replace BB := Lib.hid (below_next BB.out (Nat.le_refl _) hb)
                    replace RF := Lib.hid (RdK.below RF.out hb)
                    replace RG := Lib.hid (RdK.below RG.out hb)
                    replace RE := Lib.hid (RdA.below RE.out hb)
                    replace Rp := Lib.hid (RdK.below Rp.out hb)
                    replace Rq := Lib.hid (RdK.below Rq.out hb)
                    clear hb
                    go_wp2_with fail
                    refine (covers_at A f n c HN.out (by omega) HPF.out A f n c HN.out (by omega) HPF.out w13 RF.out RF.out).mono ?_
                    rintro e w14 ⟨q14, rfl, hq, hb⟩
                    obtain rfl : q14 = true := hq.2 HCS.out.1
                    clear hq
                    replace BB := Lib.hid (below_next BB.out (Nat.le_refl _) hb)
                    replace RF := Lib.hid (RdK.below RF.out hb)
                    replace RG := Lib.hid (RdK.below RG.out hb)
                    replace RE := Lib.hid (RdA.below RE.out hb)
                    replace Rp := Lib.hid (RdK.below Rp.out hb)
                    replace Rq := Lib.hid (RdK.below Rq.out hb)
                    clear hb
                    go_wp2_with fail
                    refine (covers_at Ap outp np cp HLp.out (by omega) HPP.out A f n c HN.out (by omega) HPF.out w14 Rp.out RF.out).mono ?_
                    rintro e w15 ⟨q15, rfl, hq, hb⟩
                    obtain rfl : q15 = true := hq.2 HCS.out.2.1
                    clear hq
                    replace BB := Lib.hid (below_next BB.out (Nat.le_refl _) hb)
                    replace RF := Lib.hid (RdK.below RF.out hb)
                    replace RG := Lib.hid (RdK.below RG.out hb)
                    replace RE := Lib.hid (RdA.below RE.out hb)
                    replace Rp := Lib.hid (RdK.below Rp.out hb)
                    replace Rq := Lib.hid (RdK.below Rq.out hb)
                    clear hb
                    go_wp2_with fail
                    refine (covers_at A f n c HN.out (by omega) HPF.out Ap outp np cp HLp.out (by omega) HPP.out w15 RF.out Rp.out).mono ?_
                    rintro e w16 ⟨q16, rfl, hq, hb⟩
                    obtain rfl : q16 = true := hq.2 HCS.out.2.2.1
                    clear hq
                    replace BB := Lib.hid (below_next BB.out (Nat.le_refl _) hb)
                    replace RF := Lib.hid (RdK.below RF.out hb)
                    replace RG := Lib.hid (RdK.below RG.out hb)
                    replace RE := Lib.hid (RdA.below RE.out hb)
                    replace Rp := Lib.hid (RdK.below Rp.out hb)
                    replace Rq := Lib.hid (RdK.below Rq.out hb)
                    clear hb
                    go_wp2_with fail
                    refine (covers_at none [] 0 0 rfl (by decide) (fun p hp => by cases hp) A f n c HN.out (by omega) HPF.out w16 (.inl rfl) RF.out).mono ?_
                    rintro e w17 ⟨q17, rfl, hq, hb⟩
                    obtain rfl : q17 = true := hq.2 HCS.out.2.2.2
                    clear hq
                    replace BB := Lib.hid (below_next BB.out (Nat.le_refl _) hb)
                    replace RF := Lib.hid (RdK.below RF.out hb)
                    replace RG := Lib.hid (RdK.below RG.out hb)
                    replace RE := Lib.hid (RdA.below RE.out hb)
                    replace Rp := Lib.hid (RdK.below Rp.out hb)
                    replace Rq := Lib.hid (RdK.below Rq.out hb)
                    clear hb
                    go_wp2_with fail
                    go_ret
                    exact ⟨rfl, BB.out⟩
                  · have HGF := Lib.hid hgf
                    have HSM : Hid (decide (outp = outq) = false) := decide_eq_false fun h => HGF.out (HCC.out.2 h).2
                    clear hgf
                    go_wp2_with fail
                    refine (covers_at A' g n' c' HN'.out (by omega) HPG.out A f n c HN.out (by omega) HPF.out w11 RG.out RF.out).mono ?_
                    rintro e w12 ⟨q12, rfl, hq, hb⟩
                    obtain rfl : q12 = false := by cases q12 with | false => rfl | true => exact absurd (hq.1 rfl) HGF.out
                    clear hq
                    replace BB := Lib.hid (below_next BB.out (Nat.le_refl _) hb)
                    replace RF := Lib.hid (RdK.below RF.out hb)
                    replace RG := Lib.hid (RdK.below RG.out hb)
                    replace RE := Lib.hid (RdA.below RE.out hb)
                    replace Rp := Lib.hid (RdK.below Rp.out hb)
                    replace Rq := Lib.hid (RdK.below Rq.out hb)
                    clear hb
                    go_wp2_with fail
                    refine (samePs_at Ap outp np cp HLp.out (by omega) Aq outq nq cq HLq.out (by omega) w12 Rp.out Rq.out false HSM.out).mono ?_
                    rintro e w13 ⟨rfl, hg⟩
                    have hb := hg.below
                    clear hg
                    replace BB := Lib.hid (below_next BB.out (Nat.le_refl _) hb)
                    replace RF := Lib.hid (RdK.below RF.out hb)
                    replace RG := Lib.hid (RdK.below RG.out hb)
                    replace RE := Lib.hid (RdA.below RE.out hb)
                    replace Rp := Lib.hid (RdK.below Rp.out hb)
                    replace Rq := Lib.hid (RdK.below Rq.out hb)
                    clear hb
                    go_wp2_with fail
                    refine (covers_at A f n c HN.out (by omega) HPF.out A f n c HN.out (by omega) HPF.out w13 RF.out RF.out).mono ?_
                    rintro e w14 ⟨q14, rfl, hq, hb⟩
                    obtain rfl : q14 = true := hq.2 HCS.out.1
                    clear hq
                    replace BB := Lib.hid (below_next BB.out (Nat.le_refl _) hb)
                    replace RF := Lib.hid (RdK.below RF.out hb)
                    replace RG := Lib.hid (RdK.below RG.out hb)
                    replace RE := Lib.hid (RdA.below RE.out hb)
                    replace Rp := Lib.hid (RdK.below Rp.out hb)
                    replace Rq := Lib.hid (RdK.below Rq.out hb)
                    clear hb
                    go_wp2_with fail
                    refine (covers_at Ap outp np cp HLp.out (by omega) HPP.out A f n c HN.out (by omega) HPF.out w14 Rp.out RF.out).mono ?_
                    rintro e w15 ⟨q15, rfl, hq, hb⟩
                    obtain rfl : q15 = true := hq.2 HCS.out.2.1
                    clear hq
                    replace BB := Lib.hid (below_next BB.out (Nat.le_refl _) hb)
                    replace RF := Lib.hid (RdK.below RF.out hb)
                    replace RG := Lib.hid (RdK.below RG.out hb)
                    replace RE := Lib.hid (RdA.below RE.out hb)
                    replace Rp := Lib.hid (RdK.below Rp.out hb)
                    replace Rq := Lib.hid (RdK.below Rq.out hb)
                    clear hb
                    go_wp2_with fail
                    refine (covers_at A f n c HN.out (by omega) HPF.out Ap outp np cp HLp.out (by omega) HPP.out w15 RF.out Rp.out).mono ?_
                    rintro e w16 ⟨q16, rfl, hq, hb⟩
                    obtain rfl : q16 = true := hq.2 HCS.out.2.2.1
                    clear hq
                    replace BB := Lib.hid (below_next BB.out (Nat.le_refl _) hb)
                    replace RF := Lib.hid (RdK.below RF.out hb)
                    replace RG := Lib.hid (RdK.below RG.out hb)
                    replace RE := Lib.hid (RdA.below RE.out hb)
                    replace Rp := Lib.hid (RdK.below Rp.out hb)
                    replace Rq := Lib.hid (RdK.below Rq.out hb)
                    clear hb
                    go_wp2_with fail
                    refine (covers_at none [] 0 0 rfl (by decide) (fun p hp => by cases hp) A f n c HN.out (by omega) HPF.out w16 (.inl rfl) RF.out).mono ?_
                    rintro e w17 ⟨q17, rfl, hq, hb⟩
                    obtain rfl : q17 = true := hq.2 HCS.out.2.2.2
                    clear hq
                    replace BB := Lib.hid (below_next BB.out (Nat.le_refl _) hb)
                    replace RF := Lib.hid (RdK.below RF.out hb)
                    replace RG := Lib.hid (RdK.below RG.out hb)
                    replace RE := Lib.hid (RdA.below RE.out hb)
                    replace Rp := Lib.hid (RdK.below Rp.out hb)
                    replace Rq := Lib.hid (RdK.below Rq.out hb)
                    clear hb
                    go_wp2_with fail
                    go_ret
                    exact ⟨rfl, BB.out⟩
                · have v0 : (erq != 0) = true := by simpa using hq0
                  clear hq0
                  go_wp2_with fail
                  go_ret
                  exact ⟨rfl, BB.out⟩
              · have v0 : (erp != 0) = true := by simpa using hp0
                clear hp0
                go_wp2_with fail
                go_ret
                exact ⟨rfl, BB.out⟩
            | false =>
              have HMG := Lib.hid hmg
              clear hmg
              go_wp2_with fail
              refine (fmeets_at A' g n' c' HN'.out (by omega) HPG.out B es m d HE.out HMM.out HEB.out w8 RG.out RE.out false HMG.out).mono ?_
              rintro e w9 ⟨rfl, hb⟩
              replace BB := Lib.hid (below_next BB.out (Nat.le_refl _) hb)
              replace RF := Lib.hid (RdK.below RF.out hb)
              replace RG := Lib.hid (RdK.below RG.out hb)
              replace RE := Lib.hid (RdA.below RE.out hb)
              replace Rp := Lib.hid (RdK.below Rp.out hb)
              replace Rq := Lib.hid (RdK.below Rq.out hb)
              clear hb
              by_cases hp0 : erp = 0
              · subst hp0
                by_cases hq0 : erq = 0
                · subst hq0
                  obtain ⟨S, L, hgf⟩ := HNOp.out.good
                  obtain ⟨T, M, hgg⟩ := HNOq.out.good
                  have HCC := Lib.hid (hgf.cov hgg)
                  have HCS := Lib.hid hgf.cov_self
                  have HPP := Lib.hid (pbd_right hgf.again.sound.2)
                  have hnp : np ≤ 24 := by rw [← HLp.out]; exact hgf.len
                  have hnq : nq ≤ 24 := by rw [← HLq.out]; exact hgg.len
                  clear hgf hgg
                  go_wp2_with fail
                  refine (covers_at A f n c HN.out (by omega) HPF.out A' g n' c' HN'.out (by omega) HPG.out w9 RF.out RG.out).mono ?_
                  rintro e w10 ⟨q10, rfl, hq, hb⟩
                  obtain rfl : q10 = true := hq.2 HCV.out
                  clear hq
                  replace BB := Lib.hid (below_next BB.out (Nat.le_refl _) hb)
                  replace RF := Lib.hid (RdK.below RF.out hb)
                  replace RG := Lib.hid (RdK.below RG.out hb)
                  replace RE := Lib.hid (RdA.below RE.out hb)
                  replace Rp := Lib.hid (RdK.below Rp.out hb)
                  replace Rq := Lib.hid (RdK.below Rq.out hb)
                  clear hb
                  by_cases hgf : Fil.Cov g f
                  · have HGF := Lib.hid hgf
                    have HSM : Hid (decide (outp = outq) = true) := decide_eq_true (HCC.out.1 ⟨HCV.out, hgf⟩)
                    clear hgf
                    go_wp2_with fail
                    refine (covers_at A' g n' c' HN'.out (by omega) HPG.out A f n c HN.out (by omega) HPF.out w10 RG.out RF.out).mono ?_
                    rintro e w11 ⟨q11, rfl, hq, hb⟩
                    obtain rfl : q11 = true := hq.2 HGF.out
                    clear hq
                    replace BB := Lib.hid (below_next BB.out (Nat.le_refl _) hb)
                    replace RF := Lib.hid (RdK.below RF.out hb)
                    replace RG := Lib.hid (RdK.below RG.out hb)
                    replace RE := Lib.hid (RdA.below RE.out hb)
                    replace Rp := Lib.hid (RdK.below Rp.out hb)
                    replace Rq := Lib.hid (RdK.below Rq.out hb)
                    clear hb
                    go_wp2_with fail
                    refine (samePs_at Ap outp np cp HLp.out (by omega) Aq outq nq cq HLq.out (by omega) w11 Rp.out Rq.out true HSM.out).mono ?_
                    rintro e w12 ⟨rfl, hg⟩
                    have hb := hg.below
                    clear hg
                    replace BB := Lib.hid (below_next BB.out (Nat.le_refl _) hb)
                    replace RF := Lib.hid (RdK.below RF.out hb)
                    replace RG := Lib.hid (RdK.below RG.out hb)
                    replace RE := Lib.hid (RdA.below RE.out hb)
                    replace Rp := Lib.hid (RdK.below Rp.out hb)
                    replace Rq := Lib.hid (RdK.below Rq.out hb)
                    clear hb
                    go_wp2_with fail
                    refine (covers_at A f n c HN.out (by omega) HPF.out A f n c HN.out (by omega) HPF.out w12 RF.out RF.out).mono ?_
                    rintro e w13 ⟨q13, rfl, hq, hb⟩
                    obtain rfl : q13 = true := hq.2 HCS.out.1
                    clear hq
                    replace BB := Lib.hid (below_next BB.out (Nat.le_refl _) hb)
                    replace RF := Lib.hid (RdK.below RF.out hb)
                    replace RG := Lib.hid (RdK.below RG.out hb)
                    replace RE := Lib.hid (RdA.below RE.out hb)
                    replace Rp := Lib.hid (RdK.below Rp.out hb)
                    replace Rq := Lib.hid (RdK.below Rq.out hb)
                    clear hb
                    go_wp2_with fail
                    refine (covers_at Ap outp np cp HLp.out (by omega) HPP.out A f n c HN.out (by omega) HPF.out w13 Rp.out RF.out).mono ?_
                    rintro e w14 ⟨q14, rfl, hq, hb⟩
                    obtain rfl : q14 = true := hq.2 HCS.out.2.1
                    clear hq
                    replace BB := Lib.hid (below_next BB.out (Nat.le_refl _) hb)
                    replace RF := Lib.hid (RdK.below RF.out hb)
                    replace RG := Lib.hid (RdK.below RG.out hb)
                    replace RE := Lib.hid (RdA.below RE.out hb)
                    replace Rp := Lib.hid (RdK.below Rp.out hb)
                    replace Rq := Lib.hid (RdK.below Rq.out hb)
                    clear hb
                    go_wp2_with fail
                    refine (covers_at A f n c HN.out (by omega) HPF.out Ap outp np cp HLp.out (by omega) HPP.out w14 RF.out Rp.out).mono ?_
                    rintro e w15 ⟨q15, rfl, hq, hb⟩
                    obtain rfl : q15 = true := hq.2 HCS.out.2.2.1
                    clear hq
                    replace BB := Lib.hid (below_next BB.out (Nat.le_refl _) hb)
                    replace RF := Lib.hid (RdK.below RF.out hb)
                    replace RG := Lib.hid (RdK.below RG.out hb)
                    replace RE := Lib.hid (RdA.below RE.out hb)
                    replace Rp := Lib.hid (RdK.below Rp.out hb)
                    replace Rq := Lib.hid (RdK.below Rq.out hb)
                    clear hb
                    go_wp2_with fail
                    refine (covers_at none [] 0 0 rfl (by decide) (fun p hp => by cases hp) A f n c HN.out (by omega) HPF.out w15 (.inl rfl) RF.out).mono ?_
                    rintro e w16 ⟨q16, rfl, hq, hb⟩
                    obtain rfl : q16 = true := hq.2 HCS.out.2.2.2
                    clear hq
                    replace BB := Lib.hid (below_next BB.out (Nat.le_refl _) hb)
                    replace RF := Lib.hid (RdK.below RF.out hb)
                    replace RG := Lib.hid (RdK.below RG.out hb)
                    replace RE := Lib.hid (RdA.below RE.out hb)
                    replace Rp := Lib.hid (RdK.below Rp.out hb)
                    replace Rq := Lib.hid (RdK.below Rq.out hb)
                    clear hb
                    go_wp2_with fail
                    go_ret
                    exact ⟨rfl, BB.out⟩
                  · have HGF := Lib.hid hgf
                    have HSM : Hid (decide (outp = outq) = false) := decide_eq_false fun h => HGF.out (HCC.out.2 h).2
                    clear hgf
                    go_wp2_with fail
                    refine (covers_at A' g n' c' HN'.out (by omega) HPG.out A f n c HN.out (by omega) HPF.out w10 RG.out RF.out).mono ?_
                    rintro e w11 ⟨q11, rfl, hq, hb⟩
                    obtain rfl : q11 = false := by cases q11 with | false => rfl | true => exact absurd (hq.1 rfl) HGF.out
                    clear hq
                    replace BB := Lib.hid (below_next BB.out (Nat.le_refl _) hb)
                    replace RF := Lib.hid (RdK.below RF.out hb)
                    replace RG := Lib.hid (RdK.below RG.out hb)
                    replace RE := Lib.hid (RdA.below RE.out hb)
                    replace Rp := Lib.hid (RdK.below Rp.out hb)
                    replace Rq := Lib.hid (RdK.below Rq.out hb)
                    clear hb
                    go_wp2_with fail
                    refine (samePs_at Ap outp np cp HLp.out (by omega) Aq outq nq cq HLq.out (by omega) w11 Rp.out Rq.out false HSM.out).mono ?_
                    rintro e w12 ⟨rfl, hg⟩
                    have hb := hg.below
                    clear hg
                    replace BB := Lib.hid (below_next BB.out (Nat.le_refl _) hb)
                    replace RF := Lib.hid (RdK.below RF.out hb)
                    replace RG := Lib.hid (RdK.below RG.out hb)
                    replace RE := Lib.hid (RdA.below RE.out hb)
                    replace Rp := Lib.hid (RdK.below Rp.out hb)
                    replace Rq := Lib.hid (RdK.below Rq.out hb)
                    clear hb
                    go_wp2_with fail
                    refine (covers_at A f n c HN.out (by omega) HPF.out A f n c HN.out (by omega) HPF.out w12 RF.out RF.out).mono ?_
                    rintro e w13 ⟨q13, rfl, hq, hb⟩
                    obtain rfl : q13 = true := hq.2 HCS.out.1
                    clear hq
                    replace BB := Lib.hid (below_next BB.out (Nat.le_refl _) hb)
                    replace RF := Lib.hid (RdK.below RF.out hb)
                    replace RG := Lib.hid (RdK.below RG.out hb)
                    replace RE := Lib.hid (RdA.below RE.out hb)
                    replace Rp := Lib.hid (RdK.below Rp.out hb)
                    replace Rq := Lib.hid (RdK.below Rq.out hb)
                    clear hb
                    go_wp2_with fail
                    refine (covers_at Ap outp np cp HLp.out (by omega) HPP.out A f n c HN.out (by omega) HPF.out w13 Rp.out RF.out).mono ?_
                    rintro e w14 ⟨q14, rfl, hq, hb⟩
                    obtain rfl : q14 = true := hq.2 HCS.out.2.1
                    clear hq
                    replace BB := Lib.hid (below_next BB.out (Nat.le_refl _) hb)
                    replace RF := Lib.hid (RdK.below RF.out hb)
                    replace RG := Lib.hid (RdK.below RG.out hb)
                    replace RE := Lib.hid (RdA.below RE.out hb)
                    replace Rp := Lib.hid (RdK.below Rp.out hb)
                    replace Rq := Lib.hid (RdK.below Rq.out hb)
                    clear hb
                    go_wp2_with fail
                    refine (covers_at A f n c HN.out (by omega) HPF.out Ap outp np cp HLp.out (by omega) HPP.out w14 RF.out Rp.out).mono ?_
                    rintro e w15 ⟨q15, rfl, hq, hb⟩
                    obtain rfl : q15 = true := hq.2 HCS.out.2.2.1
                    clear hq
                    replace BB := Lib.hid (below_next BB.out (Nat.le_refl _) hb)
                    replace RF := Lib.hid (RdK.below RF.out hb)
                    replace RG := Lib.hid (RdK.below RG.out hb)
                    replace RE := Lib.hid (RdA.below RE.out hb)
                    replace Rp := Lib.hid (RdK.below Rp.out hb)
                    replace Rq := Lib.hid (RdK.below Rq.out hb)
                    clear hb
                    go_wp2_with fail
                    refine (covers_at none [] 0 0 rfl (by decide) (fun p hp => by cases hp) A f n c HN.out (by omega) HPF.out w15 (.inl rfl) RF.out).mono ?_
                    rintro e w16 ⟨q16, rfl, hq, hb⟩
                    obtain rfl : q16 = true := hq.2 HCS.out.2.2.2
                    clear hq
                    replace BB := Lib.hid (below_next BB.out (Nat.le_refl _) hb)
                    replace RF := Lib.hid (RdK.below RF.out hb)
                    replace RG := Lib.hid (RdK.below RG.out hb)
                    replace RE := Lib.hid (RdA.below RE.out hb)
                    replace Rp := Lib.hid (RdK.below Rp.out hb)
                    replace Rq := Lib.hid (RdK.below Rq.out hb)
                    clear hb
                    go_wp2_with fail
                    go_ret
                    exact ⟨rfl, BB.out⟩
                · have v0 : (erq != 0) = true := by simpa using hq0
                  clear hq0
                  go_wp2_with fail
                  go_ret
                  exact ⟨rfl, BB.out⟩
              · have v0 : (erp != 0) = true := by simpa using hp0
                clear hp0
                go_wp2_with fail
                go_ret
                exact ⟨rfl, BB.out⟩
          · have HCV := Lib.hid hcv
            clear hcv
            refine (covers_at A f n c HN.out (by omega) HPF.out A' g n' c' HN'.out (by omega) HPG.out w7 RF.out RG.out).mono ?_
            rintro e w8 ⟨q8, rfl, hq, hb⟩
            obtain rfl : q8 = false := by cases q8 with | false => rfl | true => exact absurd (hq.1 rfl) HCV.out
            clear hq
            replace BB := Lib.hid (below_next BB.out (Nat.le_refl _) hb)
            replace RF := Lib.hid (RdK.below RF.out hb)
            replace RG := Lib.hid (RdK.below RG.out hb)
            replace RE := Lib.hid (RdA.below RE.out hb)
            replace Rp := Lib.hid (RdK.below Rp.out hb)
            replace Rq := Lib.hid (RdK.below Rq.out hb)
            clear hb
            by_cases hp0 : erp = 0
            · subst hp0
              by_cases hq0 : erq = 0
              · subst hq0
                obtain ⟨S, L, hgf⟩ := HNOp.out.good
                obtain ⟨T, M, hgg⟩ := HNOq.out.good
                have HCC := Lib.hid (hgf.cov hgg)
                have HCS := Lib.hid hgf.cov_self
                have HPP := Lib.hid (pbd_right hgf.again.sound.2)
                have hnp : np ≤ 24 := by rw [← HLp.out]; exact hgf.len
                have hnq : nq ≤ 24 := by rw [← HLq.out]; exact hgg.len
                clear hgf hgg
                go_wp2_with fail
                refine (covers_at A f n c HN.out (by omega) HPF.out A' g n' c' HN'.out (by omega) HPG.out w8 RF.out RG.out).mono ?_
                rintro e w9 ⟨q9, rfl, hq, hb⟩
                obtain rfl : q9 = false := by cases q9 with | false => rfl | true => exact absurd (hq.1 rfl) HCV.out
                clear hq
                replace BB := Lib.hid (below_next BB.out (Nat.le_refl _) hb)
                replace RF := Lib.hid (RdK.below RF.out hb)
                replace RG := Lib.hid (RdK.below RG.out hb)
                replace RE := Lib.hid (RdA.below RE.out hb)
                replace Rp := Lib.hid (RdK.below Rp.out hb)
                replace Rq := Lib.hid (RdK.below Rq.out hb)
                clear hb
                have HSM : Hid (decide (outp = outq) = false) := decide_eq_false fun h => HCV.out (HCC.out.2 h).1
                go_wp2_with fail
                refine (samePs_at Ap outp np cp HLp.out (by omega) Aq outq nq cq HLq.out (by omega) w9 Rp.out Rq.out false HSM.out).mono ?_
                rintro e w10 ⟨rfl, hg⟩
                have hb := hg.below
                clear hg
                replace BB := Lib.hid (below_next BB.out (Nat.le_refl _) hb)
                replace RF := Lib.hid (RdK.below RF.out hb)
                replace RG := Lib.hid (RdK.below RG.out hb)
                replace RE := Lib.hid (RdA.below RE.out hb)
                replace Rp := Lib.hid (RdK.below Rp.out hb)
                replace Rq := Lib.hid (RdK.below Rq.out hb)
                clear hb
                go_wp2_with fail
                refine (covers_at A f n c HN.out (by omega) HPF.out A f n c HN.out (by omega) HPF.out w10 RF.out RF.out).mono ?_
                rintro e w11 ⟨q11, rfl, hq, hb⟩
                obtain rfl : q11 = true := hq.2 HCS.out.1
                clear hq
                replace BB := Lib.hid (below_next BB.out (Nat.le_refl _) hb)
                replace RF := Lib.hid (RdK.below RF.out hb)
                replace RG := Lib.hid (RdK.below RG.out hb)
                replace RE := Lib.hid (RdA.below RE.out hb)
                replace Rp := Lib.hid (RdK.below Rp.out hb)
                replace Rq := Lib.hid (RdK.below Rq.out hb)
                clear hb
                go_wp2_with fail
                refine (covers_at Ap outp np cp HLp.out (by omega) HPP.out A f n c HN.out (by omega) HPF.out w11 Rp.out RF.out).mono ?_
                rintro e w12 ⟨q12, rfl, hq, hb⟩
                obtain rfl : q12 = true := hq.2 HCS.out.2.1
                clear hq
                replace BB := Lib.hid (below_next BB.out (Nat.le_refl _) hb)
                replace RF := Lib.hid (RdK.below RF.out hb)
                replace RG := Lib.hid (RdK.below RG.out hb)
                replace RE := Lib.hid (RdA.below RE.out hb)
                replace Rp := Lib.hid (RdK.below Rp.out hb)
                replace Rq := Lib.hid (RdK.below Rq.out hb)
                clear hb
                go_wp2_with fail
                refine (covers_at A f n c HN.out (by omega) HPF.out Ap outp np cp HLp.out (by omega) HPP.out w12 RF.out Rp.out).mono ?_
                rintro e w13 ⟨q13, rfl, hq, hb⟩
                obtain rfl : q13 = true := hq.2 HCS.out.2.2.1
                clear hq
                replace BB := Lib.hid (below_next BB.out (Nat.le_refl _) hb)
                replace RF := Lib.hid (RdK.below RF.out hb)
                replace RG := Lib.hid (RdK.below RG.out hb)
                replace RE := Lib.hid (RdA.below RE.out hb)
                replace Rp := Lib.hid (RdK.below Rp.out hb)
                replace Rq := Lib.hid (RdK.below Rq.out hb)
                clear hb
                go_wp2_with fail
                refine (covers_at none [] 0 0 rfl (by decide) (fun p hp => by cases hp) A f n c HN.out (by omega) HPF.out w13 (.inl rfl) RF.out).mono ?_
                rintro e w14 ⟨q14, rfl, hq, hb⟩
                obtain rfl : q14 = true := hq.2 HCS.out.2.2.2
                clear hq
                replace BB := Lib.hid (below_next BB.out (Nat.le_refl _) hb)
                replace RF := Lib.hid (RdK.below RF.out hb)
                replace RG := Lib.hid (RdK.below RG.out hb)
                replace RE := Lib.hid (RdA.below RE.out hb)
                replace Rp := Lib.hid (RdK.below Rp.out hb)
                replace Rq := Lib.hid (RdK.below Rq.out hb)
                clear hb
                go_wp2_with fail
                go_ret
                exact ⟨rfl, BB.out⟩
              · have v0 : (erq != 0) = true := by simpa using hq0
                clear hq0
                go_wp2_with fail
                go_ret
                exact ⟨rfl, BB.out⟩
            · have v0 : (erp != 0) = true := by simpa using hp0
              clear hp0
              go_wp2_with fail
              go_ret
              exact ⟨rfl, BB.out⟩
        · have hd : decide (Ev.Right es) = false := decide_eq_false hri
          rw [hd]
          clear hd hri
          go_wp2_with fail
          go_ret
          exact ⟨rfl, BB.out⟩
      · have hd : decide (Ev.Few es) = false := decide_eq_false hev
        rw [hd]
        clear hd hev
        go_wp2_with fail
        go_ret
        exact ⟨rfl, BB.out⟩

/-! ### The row's step. -/
namespace filterCovers
theorem own : ownKnob Tryz.prog.godebug = none := by kernel_rfl
theorem laidOut : laidOutB Tryz.prog = true := by kernel_rfl
set_option linter.unusedVariables false in
set_option maxRecDepth 100000 in
theorem lifted (os : Os) (started : os.Started) (H : Type) (enc : TypeId × Value → H) :
    ReturnsInHanded {} Tryz.checked os 6 .any (Rows.filterCoversSpec.pre6 enc Tryz.prog Tryz.f6 Rows.filterCoversRow.domain false) (Rows.filterCoversSpec.post enc Tryz.prog Tryz.f6 false true false false) := by
  refine returnsInHanded_of_change_sized (C := Tryz.checked) own started (by kernel_rfl) Tryz.func6
    (ChangeSpec.witness6 (enc := enc) (C := Tryz.checked) false ⟨#[], #[.slice none 0 0, .slice none 0 0, .slice none 0 0], []⟩ 8 (by kernel_rfl) (by kernel_rfl) (by kernel_rfl) (by kernel_rfl)) ?_
  intro W base args ds gs before hval0 hW hcnd hsz0 _
  have hval : ∀ (j : Nat) t v, Tryz.f6.params[j]? = some t → args[j]? = some v → Value.okWide Tryz.prog W .any base t v := hval0
  have hsz : (DataW.weightsEach Tryz.prog (Tryz.f6.params.toList ++ Rows.filterCoversSpec.plain.varTypes Tryz.prog) (ds ++ gs)).all (· ≤ reachBytes) = true := hsz0
  have hW' := hW
  obtain ⟨p, q, hA0, hV, rfl, hfz, hnd⟩ := hW
  have hA : DataW.TrodAll enc Tryz.prog W 0 (fun _ => true) true Tryz.f6.params.toList args.toList ds p := hA0
  rw [Tryz.params6] at hA hval hsz
  obtain ⟨v0, vs0, d0, ds0, p0, q0, hargs, rfl, rfl, h0, r0⟩ := trodAll_cons hA
  obtain ⟨v1, vs1, d1, ds1, p1, q1, rfl, rfl, rfl, h1, r1⟩ := trodAll_cons r0
  obtain ⟨v2, vs2, d2, ds2, p2, q2, rfl, rfl, rfl, h2, r2⟩ := trodAll_cons r1
  obtain ⟨rfl, rfl, rfl⟩ := trodAll_nil r2
  obtain rfl : args = #[v0, v1, v2] := by cases args; simp_all
  obtain ⟨rfl, rfl⟩ := trodVars_none hV
  obtain ⟨a0, len0, cap0, rfl⟩ := okWide_slice Tryz.underlying22 (hval 0 22 v0 rfl rfl)
  have k0 := h0
  have lt0 : ∀ x ∈ p0, x.block < W.heap.size := by obtain ⟨m, hm⟩ := k0; exact DataW.trod_lt m _ _ _ hm
  obtain ⟨es0, hl0, hc0, hm0, rd0, hw0⟩ := open_preds_of Tryz.underlying22 Tryz.underlying35 (by kernel_rfl) ⟨rfl, rfl, by kernel_rfl⟩ ⟨rfl, rfl, by kernel_rfl⟩ ⟨rfl, rfl, by kernel_rfl⟩ Tryz.underlying9 Tryz.underlying3 Tryz.underlying33 ⟨rfl, rfl, by kernel_rfl⟩ ⟨rfl, rfl, by kernel_rfl⟩ ⟨rfl, rfl, by kernel_rfl⟩ Tryz.underlying3 Tryz.underlying3 Tryz.underlying9 k0
  obtain ⟨a1, len1, cap1, rfl⟩ := okWide_slice Tryz.underlying22 (hval 1 22 v1 rfl rfl)
  have k1 := h1
  have lt1 : ∀ x ∈ p1, x.block < W.heap.size := by obtain ⟨m, hm⟩ := k1; exact DataW.trod_lt m _ _ _ hm
  obtain ⟨es1, hl1, hc1, hm1, rd1, hw1⟩ := open_preds_of Tryz.underlying22 Tryz.underlying35 (by kernel_rfl) ⟨rfl, rfl, by kernel_rfl⟩ ⟨rfl, rfl, by kernel_rfl⟩ ⟨rfl, rfl, by kernel_rfl⟩ Tryz.underlying9 Tryz.underlying3 Tryz.underlying33 ⟨rfl, rfl, by kernel_rfl⟩ ⟨rfl, rfl, by kernel_rfl⟩ ⟨rfl, rfl, by kernel_rfl⟩ Tryz.underlying3 Tryz.underlying3 Tryz.underlying9 k1
  obtain ⟨a2, len2, cap2, rfl⟩ := okWide_slice Tryz.underlying23 (hval 2 23 v2 rfl rfl)
  have k2 := h2
  have lt2 : ∀ x ∈ p2, x.block < W.heap.size := by obtain ⟨m, hm⟩ := k2; exact DataW.trod_lt m _ _ _ hm
  obtain ⟨es2, hl2, hc2, hm2, rd2, hw2⟩ := open_attrs_w Tryz.underlying23 Tryz.underlying53 (by kernel_rfl) ⟨rfl, rfl, by kernel_rfl⟩ ⟨rfl, rfl, by kernel_rfl⟩ Tryz.underlying9 Tryz.underlying33 ⟨rfl, rfl, by kernel_rfl⟩ ⟨rfl, rfl, by kernel_rfl⟩ ⟨rfl, rfl, by kernel_rfl⟩ Tryz.underlying3 Tryz.underlying3 Tryz.underlying9 k2
  clear hA0 hval0
  refine (walk_FilterCovers W a0 es0 len0 cap0 hl0 hc0 hm0 rd0 hw0 a1 es1 len1 cap1 hl1 hc1 hm1 rd1 hw1 a2 es2 len2 cap2 hl2 hc2 hm2 rd2 hw2).mono fun e W' ⟨he, bel⟩ => ?_
  subst he
  exact ⟨_, rfl, _, _, _, [], _, [], hW', trodAll_mk1 (shut_bool Tryz.underlying4 _), (trodAll_cons_mk (Below.trod laidOut (by kernel_rfl) (of_decide_eq_true (by kernel_rfl)) k0 bel lt0) (trodAll_cons_mk (Below.trod laidOut (by kernel_rfl) (of_decide_eq_true (by kernel_rfl)) k1 bel lt1) (trodAll_cons_mk (Below.trod laidOut (by kernel_rfl) (of_decide_eq_true (by kernel_rfl)) k2 bel lt2) trodAll_mk0))), rfl, bel.frame _, fun h => by cases h⟩
theorem over : Rows.filterCoversRow.holds Tryz.pinned (OpenSpec.ofChange Rows.filterCoversSpec) :=
  OpenClaim.holds_of_wide 6 Tryz.f6 rfl rfl rfl rfl rfl rfl rfl ⟨rfl, rfl, rfl, rfl, rfl⟩ rfl rfl rfl rfl rfl (by kernel_rfl) Tryz.func6 (by kernel_rfl)
    (of_decide_eq_true (by kernel_rfl)) (by unfold Func.isWrapper; first | (rw [if_pos (by decide +kernel)]; kernel_rfl) | (rw [if_neg (by decide +kernel)]; exact ⟨rfl, rfl⟩))
    (fun os started H enc _ => lifted os started H enc)
end filterCovers
/-- THE STATEMENT. -/
theorem filterCovers_holds : Rows.FilterCoversSaid := filterCovers.over
#print axioms filterCovers_holds
end Go.Proofs.YtlbendiggdmljaaGreat
