/-
  Filters cross if an event meets both, and only if all of both have a form, or too many predicates for one: for every two rows of predicates and every row of attributes the call of the law answers true, and all arguments read behind it as they read before. No condition.
-/
import Derived.Test.YtlbendiggdmljaaGreatM10
namespace Go.Proofs.YtlbendiggdmljaaGreat
open Go.RowKit Go.ChangeShapes Go.WideShapes Go.ChangeAt Go.Sort Spans
set_option maxRecDepth 100000 in
set_option maxHeartbeats 8000000 in
theorem walk_FilterCrosses (w : World) (A : Option Addr) (f : List Pr) (n c : Nat) (hn : f.length = n) (hc : n ≤ c) (hm : c ≤ maxLen) (hr : RdQ w A f) (hl : ∀ a ∈ f, a.n.length ≤ maxLen ∧ a.t.length ≤ maxLen ∧ (Lit.int .i64 a.i).wf = true) (A' : Option Addr) (g : List Pr) (n' c' : Nat) (hn' : g.length = n') (hc' : n' ≤ c') (hm' : c' ≤ maxLen) (hr' : RdQ w A' g) (hl' : ∀ a ∈ g, a.n.length ≤ maxLen ∧ a.t.length ≤ maxLen ∧ (Lit.int .i64 a.i).wf = true) (B : Option Addr) (es : List Ev.At) (m d : Nat) (hes : es.length = m) (hec : m ≤ d) (hem : d ≤ maxLen) (hre : RdA w B es) (hle : ∀ a ∈ es, a.n.length ≤ maxLen ∧ a.t.length ≤ maxLen ∧ (Lit.int .i64 a.i).wf = true) :
    Calls Tryz.prog 8 #[.slice A n c, .slice A' n' c', .slice B m d] w fun e w' => e = .returned (.bool true) ∧ Below w.heap.size w w' := by
  rw [maxLen_num] at hm
  have HL2 : Hid (∀ p ∈ f, p.n.length ≤ 9223372036854775807 ∧ p.t.length ≤ 9223372036854775807) := fun p hp => by have := hl p hp; rw [maxLen_num] at this; exact ⟨this.1, this.2.1⟩
  have HL3 : Hid (∀ p ∈ f, -9223372036854775808 ≤ p.i ∧ p.i ≤ 9223372036854775807) := fun p hp => bounds_i64 (hl p hp).2.2
  have HN := Lib.hid hn
  have HR := Lib.hid hr
  clear hn hl hr
  rw [maxLen_num] at hm'
  have HL2' : Hid (∀ p ∈ g, p.n.length ≤ 9223372036854775807 ∧ p.t.length ≤ 9223372036854775807) := fun p hp => by have := hl' p hp; rw [maxLen_num] at this; exact ⟨this.1, this.2.1⟩
  have HL3' : Hid (∀ p ∈ g, -9223372036854775808 ≤ p.i ∧ p.i ≤ 9223372036854775807) := fun p hp => bounds_i64 (hl' p hp).2.2
  have HN' := Lib.hid hn'
  have HR' := Lib.hid hr'
  clear hn' hl' hr'
  have HE := Lib.hid hes
  have HEB : Hid (∀ a ∈ es, a.n.length ≤ maxLen ∧ a.t.length ≤ maxLen) := fun a ha => ⟨(hle a ha).1, (hle a ha).2.1⟩
  have HEI : Hid (∀ a ∈ es, -9223372036854775808 ≤ a.i ∧ a.i ≤ 9223372036854775807) := fun a ha => bounds_i64 (hle a ha).2.2
  have HRE := Lib.hid hre
  have HMM : Hid (m ≤ maxLen) := Nat.le_trans hec hem
  clear hes hle hre hem
  have BB : Hid (Below w.heap.size w w) := Below.refl _ _
  have RF := HR
  have RG := HR'
  have RE := HRE
  clear HR HR' HRE
  obtain ⟨w0, hw0⟩ : ∃ w0, w0 = w := ⟨_, rfl⟩
  rw [← hw0]
  rw [← hw0] at RF RG RE BB
  clear hw0
  go_enter Tryz.func8, Tryz.ntmps8
  go_wp2_with fail
  refine (small_at w0).mono ?_
  rintro e w1 ⟨rfl, hb⟩
  replace BB := Lib.hid (below_next BB.out (Nat.le_refl _) hb)
  replace RF := Lib.hid (RdK.below RF.out hb)
  replace RG := Lib.hid (RdK.below RG.out hb)
  replace RE := Lib.hid (RdA.below RE.out hb)
  clear hb
  cases hfw : fewP f with
  | false =>
    have HFf := Lib.hid hfw
    clear hfw
    go_wp2_with fail
    refine (few_at A f n c HN.out (by omega) HL2.out w1 RF.out false HFf.out).mono ?_
    rintro e w2 ⟨rfl, rfl⟩
    go_wp2_with fail
    refine (few_at A' g n' c' HN'.out (by omega) HL2'.out w2 RG.out _ rfl).mono ?_
    rintro e w3 ⟨rfl, rfl⟩
    go_wp2_with fail
    refine (efew_at B es m d HE.out HMM.out HEB.out w3 RE.out).mono ?_
    rintro e w4 ⟨rfl, rfl⟩
    go_wp2_with fail
    go_ret
    exact ⟨rfl, BB.out⟩
  | true =>
    have HFf := Lib.hid hfw
    obtain ⟨hpb, h24⟩ := pbd_few hfw HL3.out
    have HPF := Lib.hid hpb
    have hf24 : n ≤ 24 := by rw [HN.out] at h24; exact h24
    clear hpb h24
    clear hfw
    go_wp2_with fail
    refine (few_at A f n c HN.out (by omega) HL2.out w1 RF.out true HFf.out).mono ?_
    rintro e w2 ⟨rfl, rfl⟩
    cases hfw : fewP g with
    | false =>
      have HFg := Lib.hid hfw
      clear hfw
      go_wp2_with fail
      refine (few_at A' g n' c' HN'.out (by omega) HL2'.out w2 RG.out false HFg.out).mono ?_
      rintro e w3 ⟨rfl, rfl⟩
      go_wp2_with fail
      refine (efew_at B es m d HE.out HMM.out HEB.out w3 RE.out).mono ?_
      rintro e w4 ⟨rfl, rfl⟩
      go_wp2_with fail
      go_ret
      exact ⟨rfl, BB.out⟩
    | true =>
      have HFg := Lib.hid hfw
      obtain ⟨hpb, h24⟩ := pbd_few hfw HL3'.out
      have HPG := Lib.hid hpb
      have hg24 : n' ≤ 24 := by rw [HN'.out] at h24; exact h24
      clear hpb h24
      clear hfw
      go_wp2_with fail
      refine (few_at A' g n' c' HN'.out (by omega) HL2'.out w2 RG.out true HFg.out).mono ?_
      rintro e w3 ⟨rfl, rfl⟩
      go_wp2_with fail
      refine (efew_at B es m d HE.out HMM.out HEB.out w3 RE.out).mono ?_
      rintro e w4 ⟨rfl, rfl⟩
      by_cases hev : Ev.Few es
      · have hd : decide (Ev.Few es) = true := decide_eq_true hev
        rw [hd]
        clear hd hev
        go_wp2_with fail
        refine (eright_at B es m d HE.out HMM.out HEB.out w4 RE.out).mono ?_
        rintro e w5 ⟨rfl, hg⟩
        have hb := hg.below
        clear hg
        replace BB := Lib.hid (below_next BB.out (Nat.le_refl _) hb)
        replace RF := Lib.hid (RdK.below RF.out hb)
        replace RG := Lib.hid (RdK.below RG.out hb)
        replace RE := Lib.hid (RdA.below RE.out hb)
        clear hb
        by_cases hri : Ev.Right es
        · have hd : decide (Ev.Right es) = true := decide_eq_true hri
          rw [hd]
          have HEV : Hid (Fil.EvR es) := ⟨hri, HEI.out⟩
          clear hd hri
          go_wp2_with fail
          refine (crosses_w A f n c HN.out (by omega) HPF.out A' g n' c' HN'.out (by omega) HPG.out w5 RF.out RG.out).mono ?_
          rintro e w6 ⟨⟨is, rfl, hq, hb⟩, hex⟩
          have HX := Lib.hid hq
          have HEX := Lib.hid hex
          clear hq hex
          replace BB := Lib.hid (below_next BB.out (Nat.le_refl _) hb)
          replace RF := Lib.hid (RdK.below RF.out hb)
          replace RG := Lib.hid (RdK.below RG.out hb)
          replace RE := Lib.hid (RdA.below RE.out hb)
          clear hb
          cases hm1 : Fil.meets f es with
          | true =>
            have HM1 := Lib.hid hm1
            clear hm1
            go_wp2_with fail
            refine (fmeets_at A f n c HN.out (by omega) HPF.out B es m d HE.out HMM.out HEB.out w6 RF.out RE.out true HM1.out).mono ?_
            rintro e w7 ⟨rfl, hb⟩
            replace BB := Lib.hid (below_next BB.out (Nat.le_refl _) hb)
            replace RF := Lib.hid (RdK.below RF.out hb)
            replace RG := Lib.hid (RdK.below RG.out hb)
            replace RE := Lib.hid (RdA.below RE.out hb)
            clear hb
            cases hm2 : Fil.meets g es with
            | true =>
              have HM2 := Lib.hid hm2
              clear hm2
              go_wp2_with fail
              refine (fmeets_at A' g n' c' HN'.out (by omega) HPG.out B es m d HE.out HMM.out HEB.out w7 RG.out RE.out true HM2.out).mono ?_
              rintro e w8 ⟨rfl, hb⟩
              replace BB := Lib.hid (below_next BB.out (Nat.le_refl _) hb)
              replace RF := Lib.hid (RdK.below RF.out hb)
              replace RG := Lib.hid (RdK.below RG.out hb)
              replace RE := Lib.hid (RdA.below RE.out hb)
              clear hb
              cases is with
              | true =>
                have HC : Hid (Fil.Cross f g) := HX.out.1 rfl
                clear HX
                have hb0 : Below w8.heap.size w8 (w8.alloc (.cells #[] 35)) := (Below.refl _ _).alloc (Nat.le_refl _) _
                have hO0 : OwnQ (w8.alloc (.cells #[] 35)) w8.heap.size (.slice (some ⟨w8.heap.size, 0, none⟩) 0 0) [] := OwnK.empty (L := layP) w8 w8.heap.size (Nat.le_refl _)
                have hR0 := RdK.below RF.out hb0
                have hn0 := HN.out
                have hn0' := HN'.out
                have hs0 : w8.heap.size ≤ (w8.alloc (.cells #[] 35)).heap.size := hb0.size
                go_wp2_with (first
                  | (at_builtin; refine wpList_append_k layP (by rfl) (.tmp 76) (.tmp 77) 22 underQ rfl w8.heap.size _ [] (by rfl) hO0 A f n c (by rfl) hR0 HN.out (by rw [maxLen_num]; simp; omega) (by show (0 + n) * 56 ≤ _; omega) hs0 ?_; intro v1 x1 o1 b1 g1 l1; rw [List.nil_append] at o1; have hB1 := b1 w8 hb0; have hR1 := RdK.below RG.out hB1; have hs1 : w8.heap.size ≤ x1.heap.size := hB1.size; clear b1 g1 l1 hb0 hO0 hR0 hs0)
                  | (at_builtin; refine wpList_append_k layP (by rfl) (.tmp 78) (.tmp 79) 22 underQ rfl w8.heap.size _ f (by rfl) o1 A' g n' c' (by rfl) hR1 HN'.out (by rw [maxLen_num, HN.out]; omega) (by show (f.length + n') * 56 ≤ _; rw [HN.out]; omega) hs1 ?_; intro v2 x2 o2 b2 g2 l2; have hB2 := b2 w8 hB1; have hlen : (f ++ g).length = n + n' := (by rw [List.length_append, HN.out, HN'.out]); obtain ⟨A9, c9, hv9, hc9, hr9⟩ := OwnK.form o2 hlen; subst hv9; clear b2 g2 l2 o1 hB1 hR1 hs1))
                have HLEN := Lib.hid hlen
                have R9 := Lib.hid hr9
                clear hlen hr9 o2 hn0 hn0'
                replace BB := Lib.hid (below_next BB.out (Nat.le_refl _) hB2)
                replace RF := Lib.hid (RdK.below RF.out hB2)
                replace RG := Lib.hid (RdK.below RG.out hB2)
                replace RE := Lib.hid (RdA.below RE.out hB2)
                clear hB2
                refine (norm_at A9 (f ++ g) (n + n') c9 HLEN.out (by omega) (HPF.out.app HPG.out) x2 R9.out).mono ?_
                rintro e w9 ⟨outr, er, Ar, nr, cr, rfl, hno, _, _, _, hb⟩
                have HNO := Lib.hid hno
                clear hno
                replace BB := Lib.hid (below_next BB.out (Nat.le_refl _) hb)
                replace RF := Lib.hid (RdK.below RF.out hb)
                replace RG := Lib.hid (RdK.below RG.out hb)
                replace RE := Lib.hid (RdA.below RE.out hb)
                replace R9 := Lib.hid (RdK.below R9.out hb)
                clear hb
                have HCS : Hid (Fil.Cross g f) := HC.out.swap
                have HE9 : Hid (er ≠ 9) := fun h => (by subst h; exact Fil.cross_void HNO.out HC.out)
                have v9 : (er != 9) = true := by simpa using HE9.out
                go_wp2_with fail
                refine (crosses_at A' g n' c' HN'.out (by omega) HPG.out A f n c HN.out (by omega) HPF.out w9 RG.out RF.out).mono ?_
                rintro e w10 ⟨q9, rfl, hq, hb⟩
                obtain rfl : q9 = true := hq.2 HCS.out
                clear hq
                replace BB := Lib.hid (below_next BB.out (Nat.le_refl _) hb)
                replace RF := Lib.hid (RdK.below RF.out hb)
                replace RG := Lib.hid (RdK.below RG.out hb)
                replace RE := Lib.hid (RdA.below RE.out hb)
                replace R9 := Lib.hid (RdK.below R9.out hb)
                clear hb
                by_cases hz : er = 0
                · subst hz
                  clear v9
                  go_wp2_with fail
                  go_ret
                  exact ⟨rfl, BB.out⟩
                · have v0 : (er != 0) = true := by simpa using hz
                  clear hz
                  go_wp2_with fail
                  go_ret
                  exact ⟨rfl, BB.out⟩
              | false =>
                have HC : Hid (¬ Fil.Cross f g) := fun h => (by have := HX.out.2 h; cases this)
                clear HX
                have HBAD : Hid (¬ Fil.AllRight f ∨ ¬ Fil.AllRight g) := by
                  refine Classical.byContradiction fun h => HC.out ?_
                  have h1 : Fil.AllRight f := Classical.byContradiction fun k => h (.inl k)
                  have h2 : Fil.AllRight g := Classical.byContradiction fun k => h (.inr k)
                  have s1 : Fil.Sound f := ⟨by rw [HN.out]; exact hf24, h1⟩
                  have s2 : Fil.Sound g := ⟨by rw [HN'.out]; exact hg24, h2⟩
                  obtain ⟨S, L, hS, hL⟩ := HEX.out s1 s2
                  exact Fil.cross_met s1 s2 hS hL HEV.out HM1.out HM2.out
                go_wp2_with fail
                refine (norm_at A f n c HN.out (by omega) HPF.out w8 RF.out).mono ?_
                rintro e w9 ⟨outp, erp, Ap, np, cp, rfl, hno, hl, _, ho, hb⟩
                have HNOp := Lib.hid hno
                have HLp := Lib.hid hl
                obtain ⟨_, _, e1, _, hrd⟩ := OwnK.rd ho
                injection e1 with e1 e2 e3
                subst e1
                have Rp := Lib.hid hrd
                clear hno hl ho hrd e2 e3
                replace BB := Lib.hid (below_next BB.out (Nat.le_refl _) hb)
                replace RF := Lib.hid (RdK.below RF.out hb)
                replace RG := Lib.hid (RdK.below RG.out hb)
                replace RE := Lib.hid (RdA.below RE.out hb)
                clear hb
                go_wp2_with fail
                refine (norm_at A' g n' c' HN'.out (by omega) HPG.out w9 RG.out).mono ?_
                rintro e w10 ⟨outq, erq, Aq, nq, cq, rfl, hno, hl, _, ho, hb⟩
                have HNOq := Lib.hid hno
                have HLq := Lib.hid hl
                obtain ⟨_, _, e1, _, hrd⟩ := OwnK.rd ho
                injection e1 with e1 e2 e3
                subst e1
                have Rq := Lib.hid hrd
                clear hno hl ho hrd e2 e3
                replace BB := Lib.hid (below_next BB.out (Nat.le_refl _) hb)
                replace RF := Lib.hid (RdK.below RF.out hb)
                replace RG := Lib.hid (RdK.below RG.out hb)
                replace RE := Lib.hid (RdA.below RE.out hb)
                replace Rp := Lib.hid (RdK.below Rp.out hb)
                clear hb
                rcases HBAD.out with hb | hb
                · obtain rfl := HNOp.out.wrong (by rw [HN.out]; exact hf24) hb
                  clear hb
                  go_wp2_with fail
                  go_ret
                  exact ⟨rfl, BB.out⟩
                · obtain rfl := HNOq.out.wrong (by rw [HN'.out]; exact hg24) hb
                  clear hb
                  by_cases hp1 : erp = 1
                  · subst hp1
                    go_wp2_with fail
                    go_ret
                    exact ⟨rfl, BB.out⟩
                  · have v1 : (erp == 1) = false := beq_eq_false_iff_ne.2 hp1
                    clear hp1
                    go_wp2_with fail
                    go_ret
                    exact ⟨rfl, BB.out⟩
            | false =>
              have HM2 := Lib.hid hm2
              clear hm2
              go_wp2_with fail
              refine (fmeets_at A' g n' c' HN'.out (by omega) HPG.out B es m d HE.out HMM.out HEB.out w7 RG.out RE.out false HM2.out).mono ?_
              rintro e w8 ⟨rfl, hb⟩
              replace BB := Lib.hid (below_next BB.out (Nat.le_refl _) hb)
              replace RF := Lib.hid (RdK.below RF.out hb)
              replace RG := Lib.hid (RdK.below RG.out hb)
              replace RE := Lib.hid (RdA.below RE.out hb)
              clear hb
              cases is with
              | true =>
                have HC : Hid (Fil.Cross f g) := HX.out.1 rfl
                clear HX
                have hb0 : Below w8.heap.size w8 (w8.alloc (.cells #[] 35)) := (Below.refl _ _).alloc (Nat.le_refl _) _
                have hO0 : OwnQ (w8.alloc (.cells #[] 35)) w8.heap.size (.slice (some ⟨w8.heap.size, 0, none⟩) 0 0) [] := OwnK.empty (L := layP) w8 w8.heap.size (Nat.le_refl _)
                have hR0 := RdK.below RF.out hb0
                have hn0 := HN.out
                have hn0' := HN'.out
                have hs0 : w8.heap.size ≤ (w8.alloc (.cells #[] 35)).heap.size := hb0.size
                go_wp2_with (first
                  | (at_builtin; refine wpList_append_k layP (by rfl) (.tmp 76) (.tmp 77) 22 underQ rfl w8.heap.size _ [] (by rfl) hO0 A f n c (by rfl) hR0 HN.out (by rw [maxLen_num]; simp; omega) (by show (0 + n) * 56 ≤ _; omega) hs0 ?_; intro v1 x1 o1 b1 g1 l1; rw [List.nil_append] at o1; have hB1 := b1 w8 hb0; have hR1 := RdK.below RG.out hB1; have hs1 : w8.heap.size ≤ x1.heap.size := hB1.size; clear b1 g1 l1 hb0 hO0 hR0 hs0)
                  | (at_builtin; refine wpList_append_k layP (by rfl) (.tmp 78) (.tmp 79) 22 underQ rfl w8.heap.size _ f (by rfl) o1 A' g n' c' (by rfl) hR1 HN'.out (by rw [maxLen_num, HN.out]; omega) (by show (f.length + n') * 56 ≤ _; rw [HN.out]; omega) hs1 ?_; intro v2 x2 o2 b2 g2 l2; have hB2 := b2 w8 hB1; have hlen : (f ++ g).length = n + n' := (by rw [List.length_append, HN.out, HN'.out]); obtain ⟨A9, c9, hv9, hc9, hr9⟩ := OwnK.form o2 hlen; subst hv9; clear b2 g2 l2 o1 hB1 hR1 hs1))
                have HLEN := Lib.hid hlen
                have R9 := Lib.hid hr9
                clear hlen hr9 o2 hn0 hn0'
                replace BB := Lib.hid (below_next BB.out (Nat.le_refl _) hB2)
                replace RF := Lib.hid (RdK.below RF.out hB2)
                replace RG := Lib.hid (RdK.below RG.out hB2)
                replace RE := Lib.hid (RdA.below RE.out hB2)
                clear hB2
                refine (norm_at A9 (f ++ g) (n + n') c9 HLEN.out (by omega) (HPF.out.app HPG.out) x2 R9.out).mono ?_
                rintro e w9 ⟨outr, er, Ar, nr, cr, rfl, hno, _, _, _, hb⟩
                have HNO := Lib.hid hno
                clear hno
                replace BB := Lib.hid (below_next BB.out (Nat.le_refl _) hb)
                replace RF := Lib.hid (RdK.below RF.out hb)
                replace RG := Lib.hid (RdK.below RG.out hb)
                replace RE := Lib.hid (RdA.below RE.out hb)
                replace R9 := Lib.hid (RdK.below R9.out hb)
                clear hb
                have HCS : Hid (Fil.Cross g f) := HC.out.swap
                have HE9 : Hid (er ≠ 9) := fun h => (by subst h; exact Fil.cross_void HNO.out HC.out)
                have v9 : (er != 9) = true := by simpa using HE9.out
                go_wp2_with fail
                refine (crosses_at A' g n' c' HN'.out (by omega) HPG.out A f n c HN.out (by omega) HPF.out w9 RG.out RF.out).mono ?_
                rintro e w10 ⟨q9, rfl, hq, hb⟩
                obtain rfl : q9 = true := hq.2 HCS.out
                clear hq
                replace BB := Lib.hid (below_next BB.out (Nat.le_refl _) hb)
                replace RF := Lib.hid (RdK.below RF.out hb)
                replace RG := Lib.hid (RdK.below RG.out hb)
                replace RE := Lib.hid (RdA.below RE.out hb)
                replace R9 := Lib.hid (RdK.below R9.out hb)
                clear hb
                by_cases hz : er = 0
                · subst hz
                  clear v9
                  go_wp2_with fail
                  go_ret
                  exact ⟨rfl, BB.out⟩
                · have v0 : (er != 0) = true := by simpa using hz
                  clear hz
                  go_wp2_with fail
                  go_ret
                  exact ⟨rfl, BB.out⟩
              | false =>
                have HC : Hid (¬ Fil.Cross f g) := fun h => (by have := HX.out.2 h; cases this)
                clear HX
                have hb0 : Below w8.heap.size w8 (w8.alloc (.cells #[] 35)) := (Below.refl _ _).alloc (Nat.le_refl _) _
                have hO0 : OwnQ (w8.alloc (.cells #[] 35)) w8.heap.size (.slice (some ⟨w8.heap.size, 0, none⟩) 0 0) [] := OwnK.empty (L := layP) w8 w8.heap.size (Nat.le_refl _)
                have hR0 := RdK.below RF.out hb0
                have hn0 := HN.out
                have hn0' := HN'.out
                have hs0 : w8.heap.size ≤ (w8.alloc (.cells #[] 35)).heap.size := hb0.size
                go_wp2_with (first
                  | (at_builtin; refine wpList_append_k layP (by rfl) (.tmp 76) (.tmp 77) 22 underQ rfl w8.heap.size _ [] (by rfl) hO0 A f n c (by rfl) hR0 HN.out (by rw [maxLen_num]; simp; omega) (by show (0 + n) * 56 ≤ _; omega) hs0 ?_; intro v1 x1 o1 b1 g1 l1; rw [List.nil_append] at o1; have hB1 := b1 w8 hb0; have hR1 := RdK.below RG.out hB1; have hs1 : w8.heap.size ≤ x1.heap.size := hB1.size; clear b1 g1 l1 hb0 hO0 hR0 hs0)
                  | (at_builtin; refine wpList_append_k layP (by rfl) (.tmp 78) (.tmp 79) 22 underQ rfl w8.heap.size _ f (by rfl) o1 A' g n' c' (by rfl) hR1 HN'.out (by rw [maxLen_num, HN.out]; omega) (by show (f.length + n') * 56 ≤ _; rw [HN.out]; omega) hs1 ?_; intro v2 x2 o2 b2 g2 l2; have hB2 := b2 w8 hB1; have hlen : (f ++ g).length = n + n' := (by rw [List.length_append, HN.out, HN'.out]); obtain ⟨A9, c9, hv9, hc9, hr9⟩ := OwnK.form o2 hlen; subst hv9; clear b2 g2 l2 o1 hB1 hR1 hs1))
                have HLEN := Lib.hid hlen
                have R9 := Lib.hid hr9
                clear hlen hr9 o2 hn0 hn0'
                replace BB := Lib.hid (below_next BB.out (Nat.le_refl _) hB2)
                replace RF := Lib.hid (RdK.below RF.out hB2)
                replace RG := Lib.hid (RdK.below RG.out hB2)
                replace RE := Lib.hid (RdA.below RE.out hB2)
                clear hB2
                refine (norm_at A9 (f ++ g) (n + n') c9 HLEN.out (by omega) (HPF.out.app HPG.out) x2 R9.out).mono ?_
                rintro e w9 ⟨outr, er, Ar, nr, cr, rfl, hno, _, _, _, hb⟩
                have HNO := Lib.hid hno
                clear hno
                replace BB := Lib.hid (below_next BB.out (Nat.le_refl _) hb)
                replace RF := Lib.hid (RdK.below RF.out hb)
                replace RG := Lib.hid (RdK.below RG.out hb)
                replace RE := Lib.hid (RdA.below RE.out hb)
                replace R9 := Lib.hid (RdK.below R9.out hb)
                clear hb
                have HCS : Hid (¬ Fil.Cross g f) := fun h => HC.out h.swap
                have HE0 : Hid (er ≠ 0) := fun h => (by subst h; exact HC.out (Fil.cross_norm HNO.out))
                have v0 : (er != 0) = true := by simpa using HE0.out
                go_wp2_with fail
                refine (crosses_at A' g n' c' HN'.out (by omega) HPG.out A f n c HN.out (by omega) HPF.out w9 RG.out RF.out).mono ?_
                rintro e w10 ⟨q9, rfl, hq, hb⟩
                obtain rfl : q9 = false := by cases q9 with | false => rfl | true => exact absurd (hq.1 rfl) HCS.out
                clear hq
                replace BB := Lib.hid (below_next BB.out (Nat.le_refl _) hb)
                replace RF := Lib.hid (RdK.below RF.out hb)
                replace RG := Lib.hid (RdK.below RG.out hb)
                replace RE := Lib.hid (RdA.below RE.out hb)
                replace R9 := Lib.hid (RdK.below R9.out hb)
                clear hb
                by_cases hz : er = 9
                · subst hz
                  clear v0
                  go_wp2_with fail
                  go_ret
                  exact ⟨rfl, BB.out⟩
                · have v9 : (er != 9) = true := by simpa using hz
                  clear hz
                  go_wp2_with fail
                  go_ret
                  exact ⟨rfl, BB.out⟩
          | false =>
            have HM1 := Lib.hid hm1
            clear hm1
            go_wp2_with fail
            refine (fmeets_at A f n c HN.out (by omega) HPF.out B es m d HE.out HMM.out HEB.out w6 RF.out RE.out false HM1.out).mono ?_
            rintro e w7 ⟨rfl, hb⟩
            replace BB := Lib.hid (below_next BB.out (Nat.le_refl _) hb)
            replace RF := Lib.hid (RdK.below RF.out hb)
            replace RG := Lib.hid (RdK.below RG.out hb)
            replace RE := Lib.hid (RdA.below RE.out hb)
            clear hb
            cases is with
            | true =>
              have HC : Hid (Fil.Cross f g) := HX.out.1 rfl
              clear HX
              have hb0 : Below w7.heap.size w7 (w7.alloc (.cells #[] 35)) := (Below.refl _ _).alloc (Nat.le_refl _) _
              have hO0 : OwnQ (w7.alloc (.cells #[] 35)) w7.heap.size (.slice (some ⟨w7.heap.size, 0, none⟩) 0 0) [] := OwnK.empty (L := layP) w7 w7.heap.size (Nat.le_refl _)
              have hR0 := RdK.below RF.out hb0
              have hn0 := HN.out
              have hn0' := HN'.out
              have hs0 : w7.heap.size ≤ (w7.alloc (.cells #[] 35)).heap.size := hb0.size
              go_wp2_with (first
                | (at_builtin; refine wpList_append_k layP (by rfl) (.tmp 76) (.tmp 77) 22 underQ rfl w7.heap.size _ [] (by rfl) hO0 A f n c (by rfl) hR0 HN.out (by rw [maxLen_num]; simp; omega) (by show (0 + n) * 56 ≤ _; omega) hs0 ?_; intro v1 x1 o1 b1 g1 l1; rw [List.nil_append] at o1; have hB1 := b1 w7 hb0; have hR1 := RdK.below RG.out hB1; have hs1 : w7.heap.size ≤ x1.heap.size := hB1.size; clear b1 g1 l1 hb0 hO0 hR0 hs0)
                | (at_builtin; refine wpList_append_k layP (by rfl) (.tmp 78) (.tmp 79) 22 underQ rfl w7.heap.size _ f (by rfl) o1 A' g n' c' (by rfl) hR1 HN'.out (by rw [maxLen_num, HN.out]; omega) (by show (f.length + n') * 56 ≤ _; rw [HN.out]; omega) hs1 ?_; intro v2 x2 o2 b2 g2 l2; have hB2 := b2 w7 hB1; have hlen : (f ++ g).length = n + n' := (by rw [List.length_append, HN.out, HN'.out]); obtain ⟨A9, c9, hv9, hc9, hr9⟩ := OwnK.form o2 hlen; subst hv9; clear b2 g2 l2 o1 hB1 hR1 hs1))
              have HLEN := Lib.hid hlen
              have R9 := Lib.hid hr9
              clear hlen hr9 o2 hn0 hn0'
              replace BB := Lib.hid (below_next BB.out (Nat.le_refl _) hB2)
              replace RF := Lib.hid (RdK.below RF.out hB2)
              replace RG := Lib.hid (RdK.below RG.out hB2)
              replace RE := Lib.hid (RdA.below RE.out hB2)
              clear hB2
              refine (norm_at A9 (f ++ g) (n + n') c9 HLEN.out (by omega) (HPF.out.app HPG.out) x2 R9.out).mono ?_
              rintro e w8 ⟨outr, er, Ar, nr, cr, rfl, hno, _, _, _, hb⟩
              have HNO := Lib.hid hno
              clear hno
              replace BB := Lib.hid (below_next BB.out (Nat.le_refl _) hb)
              replace RF := Lib.hid (RdK.below RF.out hb)
              replace RG := Lib.hid (RdK.below RG.out hb)
              replace RE := Lib.hid (RdA.below RE.out hb)
              replace R9 := Lib.hid (RdK.below R9.out hb)
              clear hb
              have HCS : Hid (Fil.Cross g f) := HC.out.swap
              have HE9 : Hid (er ≠ 9) := fun h => (by subst h; exact Fil.cross_void HNO.out HC.out)
              have v9 : (er != 9) = true := by simpa using HE9.out
              go_wp2_with fail
              refine (crosses_at A' g n' c' HN'.out (by omega) HPG.out A f n c HN.out (by omega) HPF.out w8 RG.out RF.out).mono ?_
              rintro e w9 ⟨q9, rfl, hq, hb⟩
              obtain rfl : q9 = true := hq.2 HCS.out
              clear hq
              replace BB := Lib.hid (below_next BB.out (Nat.le_refl _) hb)
              replace RF := Lib.hid (RdK.below RF.out hb)
              replace RG := Lib.hid (RdK.below RG.out hb)
              replace RE := Lib.hid (RdA.below RE.out hb)
              replace R9 := Lib.hid (RdK.below R9.out hb)
              clear hb
              by_cases hz : er = 0
              · subst hz
                clear v9
                go_wp2_with fail
                go_ret
                exact ⟨rfl, BB.out⟩
              · have v0 : (er != 0) = true := by simpa using hz
                clear hz
                go_wp2_with fail
                go_ret
                exact ⟨rfl, BB.out⟩
            | false =>
              have HC : Hid (¬ Fil.Cross f g) := fun h => (by have := HX.out.2 h; cases this)
              clear HX
              have hb0 : Below w7.heap.size w7 (w7.alloc (.cells #[] 35)) := (Below.refl _ _).alloc (Nat.le_refl _) _
              have hO0 : OwnQ (w7.alloc (.cells #[] 35)) w7.heap.size (.slice (some ⟨w7.heap.size, 0, none⟩) 0 0) [] := OwnK.empty (L := layP) w7 w7.heap.size (Nat.le_refl _)
              have hR0 := RdK.below RF.out hb0
              have hn0 := HN.out
              have hn0' := HN'.out
              have hs0 : w7.heap.size ≤ (w7.alloc (.cells #[] 35)).heap.size := hb0.size
              go_wp2_with (first
                | (at_builtin; refine wpList_append_k layP (by rfl) (.tmp 76) (.tmp 77) 22 underQ rfl w7.heap.size _ [] (by rfl) hO0 A f n c (by rfl) hR0 HN.out (by rw [maxLen_num]; simp; omega) (by show (0 + n) * 56 ≤ _; omega) hs0 ?_; intro v1 x1 o1 b1 g1 l1; rw [List.nil_append] at o1; have hB1 := b1 w7 hb0; have hR1 := RdK.below RG.out hB1; have hs1 : w7.heap.size ≤ x1.heap.size := hB1.size; clear b1 g1 l1 hb0 hO0 hR0 hs0)
                | (at_builtin; refine wpList_append_k layP (by rfl) (.tmp 78) (.tmp 79) 22 underQ rfl w7.heap.size _ f (by rfl) o1 A' g n' c' (by rfl) hR1 HN'.out (by rw [maxLen_num, HN.out]; omega) (by show (f.length + n') * 56 ≤ _; rw [HN.out]; omega) hs1 ?_; intro v2 x2 o2 b2 g2 l2; have hB2 := b2 w7 hB1; have hlen : (f ++ g).length = n + n' := (by rw [List.length_append, HN.out, HN'.out]); obtain ⟨A9, c9, hv9, hc9, hr9⟩ := OwnK.form o2 hlen; subst hv9; clear b2 g2 l2 o1 hB1 hR1 hs1))
              have HLEN := Lib.hid hlen
              have R9 := Lib.hid hr9
              clear hlen hr9 o2 hn0 hn0'
              replace BB := Lib.hid (below_next BB.out (Nat.le_refl _) hB2)
              replace RF := Lib.hid (RdK.below RF.out hB2)
              replace RG := Lib.hid (RdK.below RG.out hB2)
              replace RE := Lib.hid (RdA.below RE.out hB2)
              clear hB2
              refine (norm_at A9 (f ++ g) (n + n') c9 HLEN.out (by omega) (HPF.out.app HPG.out) x2 R9.out).mono ?_
              rintro e w8 ⟨outr, er, Ar, nr, cr, rfl, hno, _, _, _, hb⟩
              have HNO := Lib.hid hno
              clear hno
              replace BB := Lib.hid (below_next BB.out (Nat.le_refl _) hb)
              replace RF := Lib.hid (RdK.below RF.out hb)
              replace RG := Lib.hid (RdK.below RG.out hb)
              replace RE := Lib.hid (RdA.below RE.out hb)
              replace R9 := Lib.hid (RdK.below R9.out hb)
              clear hb
              have HCS : Hid (¬ Fil.Cross g f) := fun h => HC.out h.swap
              have HE0 : Hid (er ≠ 0) := fun h => (by subst h; exact HC.out (Fil.cross_norm HNO.out))
              have v0 : (er != 0) = true := by simpa using HE0.out
              go_wp2_with fail
              refine (crosses_at A' g n' c' HN'.out (by omega) HPG.out A f n c HN.out (by omega) HPF.out w8 RG.out RF.out).mono ?_
              rintro e w9 ⟨q9, rfl, hq, hb⟩
              obtain rfl : q9 = false := by cases q9 with | false => rfl | true => exact absurd (hq.1 rfl) HCS.out
              clear hq
              replace BB := Lib.hid (below_next BB.out (Nat.le_refl _) hb)
              replace RF := Lib.hid (RdK.below RF.out hb)
              replace RG := Lib.hid (RdK.below RG.out hb)
              replace RE := Lib.hid (RdA.below RE.out hb)
              replace R9 := Lib.hid (RdK.below R9.out hb)
              clear hb
              by_cases hz : er = 9
              · subst hz
                clear v0
                go_wp2_with fail
                go_ret
                exact ⟨rfl, BB.out⟩
              · have v9 : (er != 9) = true := by simpa using hz
                clear hz
                go_wp2_with fail
                go_ret
                exact ⟨rfl, BB.out⟩
        · have hd : decide (Ev.Right es) = false := decide_eq_false hri
          rw [hd]
          clear hd hri
          go_wp2_with fail
          go_ret
          exact ⟨rfl, BB.out⟩
      · have hd : decide (Ev.Few es) = false := decide_eq_false hev
        rw [hd]
        clear hd hev
        go_wp2_with fail
        go_ret
        exact ⟨rfl, BB.out⟩

/-! ### The row's step. -/
namespace filterCrosses
theorem own : ownKnob Tryz.prog.godebug = none := by kernel_rfl
theorem laidOut : laidOutB Tryz.prog = true := by kernel_rfl
set_option linter.unusedVariables false in
set_option maxRecDepth 100000 in
theorem lifted (os : Os) (started : os.Started) (H : Type) (enc : TypeId × Value → H) :
    ReturnsInHanded {} Tryz.checked os 8 .any (Rows.filterCrossesSpec.pre6 enc Tryz.prog Tryz.f8 Rows.filterCrossesRow.domain false) (Rows.filterCrossesSpec.post enc Tryz.prog Tryz.f8 false true false false) := by
  refine returnsInHanded_of_change_sized (C := Tryz.checked) own started (by kernel_rfl) Tryz.func8
    (ChangeSpec.witness6 (enc := enc) (C := Tryz.checked) false ⟨#[], #[.slice none 0 0, .slice none 0 0, .slice none 0 0], []⟩ 8 (by kernel_rfl) (by kernel_rfl) (by kernel_rfl) (by kernel_rfl)) ?_
  intro W base args ds gs before hval0 hW hcnd hsz0 _
  have hval : ∀ (j : Nat) t v, Tryz.f8.params[j]? = some t → args[j]? = some v → Value.okWide Tryz.prog W .any base t v := hval0
  have hsz : (DataW.weightsEach Tryz.prog (Tryz.f8.params.toList ++ Rows.filterCrossesSpec.plain.varTypes Tryz.prog) (ds ++ gs)).all (· ≤ reachBytes) = true := hsz0
  have hW' := hW
  obtain ⟨p, q, hA0, hV, rfl, hfz, hnd⟩ := hW
  have hA : DataW.TrodAll enc Tryz.prog W 0 (fun _ => true) true Tryz.f8.params.toList args.toList ds p := hA0
  rw [Tryz.params8] at hA hval hsz
  obtain ⟨v0, vs0, d0, ds0, p0, q0, hargs, rfl, rfl, h0, r0⟩ := trodAll_cons hA
  obtain ⟨v1, vs1, d1, ds1, p1, q1, rfl, rfl, rfl, h1, r1⟩ := trodAll_cons r0
  obtain ⟨v2, vs2, d2, ds2, p2, q2, rfl, rfl, rfl, h2, r2⟩ := trodAll_cons r1
  obtain ⟨rfl, rfl, rfl⟩ := trodAll_nil r2
  obtain rfl : args = #[v0, v1, v2] := by cases args; simp_all
  obtain ⟨rfl, rfl⟩ := trodVars_none hV
  obtain ⟨a0, len0, cap0, rfl⟩ := okWide_slice Tryz.underlying22 (hval 0 22 v0 rfl rfl)
  have k0 := h0
  have lt0 : ∀ x ∈ p0, x.block < W.heap.size := by obtain ⟨m, hm⟩ := k0; exact DataW.trod_lt m _ _ _ hm
  obtain ⟨es0, hl0, hc0, hm0, rd0, hw0⟩ := open_preds_of Tryz.underlying22 Tryz.underlying35 (by kernel_rfl) ⟨rfl, rfl, by kernel_rfl⟩ ⟨rfl, rfl, by kernel_rfl⟩ ⟨rfl, rfl, by kernel_rfl⟩ Tryz.underlying9 Tryz.underlying3 Tryz.underlying33 ⟨rfl, rfl, by kernel_rfl⟩ ⟨rfl, rfl, by kernel_rfl⟩ ⟨rfl, rfl, by kernel_rfl⟩ Tryz.underlying3 Tryz.underlying3 Tryz.underlying9 k0
  obtain ⟨a1, len1, cap1, rfl⟩ := okWide_slice Tryz.underlying22 (hval 1 22 v1 rfl rfl)
  have k1 := h1
  have lt1 : ∀ x ∈ p1, x.block < W.heap.size := by obtain ⟨m, hm⟩ := k1; exact DataW.trod_lt m _ _ _ hm
  obtain ⟨es1, hl1, hc1, hm1, rd1, hw1⟩ := open_preds_of Tryz.underlying22 Tryz.underlying35 (by kernel_rfl) ⟨rfl, rfl, by kernel_rfl⟩ ⟨rfl, rfl, by kernel_rfl⟩ ⟨rfl, rfl, by kernel_rfl⟩ Tryz.underlying9 Tryz.underlying3 Tryz.underlying33 ⟨rfl, rfl, by kernel_rfl⟩ ⟨rfl, rfl, by kernel_rfl⟩ ⟨rfl, rfl, by kernel_rfl⟩ Tryz.underlying3 Tryz.underlying3 Tryz.underlying9 k1
  obtain ⟨a2, len2, cap2, rfl⟩ := okWide_slice Tryz.underlying23 (hval 2 23 v2 rfl rfl)
  have k2 := h2
  have lt2 : ∀ x ∈ p2, x.block < W.heap.size := by obtain ⟨m, hm⟩ := k2; exact DataW.trod_lt m _ _ _ hm
  obtain ⟨es2, hl2, hc2, hm2, rd2, hw2⟩ := open_attrs_w Tryz.underlying23 Tryz.underlying53 (by kernel_rfl) ⟨rfl, rfl, by kernel_rfl⟩ ⟨rfl, rfl, by kernel_rfl⟩ Tryz.underlying9 Tryz.underlying33 ⟨rfl, rfl, by kernel_rfl⟩ ⟨rfl, rfl, by kernel_rfl⟩ ⟨rfl, rfl, by kernel_rfl⟩ Tryz.underlying3 Tryz.underlying3 Tryz.underlying9 k2
  clear hA0 hval0
  refine (walk_FilterCrosses W a0 es0 len0 cap0 hl0 hc0 hm0 rd0 hw0 a1 es1 len1 cap1 hl1 hc1 hm1 rd1 hw1 a2 es2 len2 cap2 hl2 hc2 hm2 rd2 hw2).mono fun e W' ⟨he, bel⟩ => ?_
  subst he
  exact ⟨_, rfl, _, _, _, [], _, [], hW', trodAll_mk1 (shut_bool Tryz.underlying4 _), (trodAll_cons_mk (Below.trod laidOut (by kernel_rfl) (of_decide_eq_true (by kernel_rfl)) k0 bel lt0) (trodAll_cons_mk (Below.trod laidOut (by kernel_rfl) (of_decide_eq_true (by kernel_rfl)) k1 bel lt1) (trodAll_cons_mk (Below.trod laidOut (by kernel_rfl) (of_decide_eq_true (by kernel_rfl)) k2 bel lt2) trodAll_mk0))), rfl, bel.frame _, fun h => by cases h⟩
theorem over : Rows.filterCrossesRow.holds Tryz.pinned (OpenSpec.ofChange Rows.filterCrossesSpec) :=
  OpenClaim.holds_of_wide 8 Tryz.f8 rfl rfl rfl rfl rfl rfl rfl ⟨rfl, rfl, rfl, rfl, rfl⟩ rfl rfl rfl rfl rfl (by kernel_rfl) Tryz.func8 (by kernel_rfl)
    (of_decide_eq_true (by kernel_rfl)) (by unfold Func.isWrapper; first | (rw [if_pos (by decide +kernel)]; kernel_rfl) | (rw [if_neg (by decide +kernel)]; exact ⟨rfl, rfl⟩))
    (fun os started H enc _ => lifted os started H enc)
end filterCrosses
/-- THE STATEMENT. -/
theorem filterCrosses_holds : Rows.FilterCrossesSaid := filterCrosses.over
#print axioms filterCrosses_holds
end Go.Proofs.YtlbendiggdmljaaGreat
