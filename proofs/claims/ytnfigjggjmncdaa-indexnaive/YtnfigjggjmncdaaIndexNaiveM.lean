/-
  An index tells what one is told who asks filter by filter: for every row of entries and every row of attributes the call of the law answers true, and all arguments read behind it as they read before. No condition.
-/
import Derived.Deep.LoopGhost
import Derived.WalkMore
import Derived.Test.YtnfigjggjmncdaaI6
namespace Go.Proofs.Ytnfigjggjmncdaa
open Go.RowKit Go.ChangeShapes Go.WideShapes Go.ChangeAt Go.Sort Spans Tb
set_option maxRecDepth 100000 in
set_option maxHeartbeats 8000000 in
theorem walk_IndexNaive (w : World) (A : Option Addr) (es : List Ex) (n c : Nat) (hn : es.length = n) (hnc : n ≤ c) (hcm : c ≤ maxLen) (hnz : n ≤ 3600000000000) (hr : RdEn w A es) (hbx : EBx es) (hkb : ∀ x ∈ es, KB x.f) (B : Option Addr) (ev : List Ev.At) (m d : Nat) (hes : ev.length = m) (hec : m ≤ d) (hem : d ≤ maxLen) (hre : RdA w B ev) (hle : ∀ a ∈ ev, a.n.length ≤ maxLen ∧ a.t.length ≤ maxLen ∧ (Lit.int .i64 a.i).wf = true) :
    Calls Try.prog 4 #[.slice A n c, .slice B m d] w fun e w' => e = .returned (.bool true) ∧ Below w.heap.size w w' := by
  have HN := Lib.hid hn
  have HNC := Lib.hid hnc
  have HR := Lib.hid hr
  have HBX := Lib.hid hbx
  have HKB := Lib.hid hkb
  have HE := Lib.hid hes
  have HRE := Lib.hid hre
  have HXL : Hid (∀ x ∈ es, x.f.length = x.n) := fun x hx => (hr.2 x hx).1
  have HEB : Hid (∀ a ∈ ev, a.n.length ≤ maxLen ∧ a.t.length ≤ maxLen) := fun a ha => ⟨(hle a ha).1, (hle a ha).2.1⟩
  have HMM : Hid (m ≤ maxLen) := Nat.le_trans hec hem
  have HMD := Lib.hid hec
  have HCM := Lib.hid hcm
  clear hn hnc hcm hr hbx hkb hes hec hem hre hle
  go_enter Try.func4, Try.ntmps4
  go_wp2_with fail
  refine (ixsmall_at _).mono ?_
  rintro e w1 ⟨rfl, hb⟩
  have HB := Lib.hid hb
  clear hb
  go_wp2_with fail
  obtain ⟨q, hq⟩ : ∃ q, fewE es = q := ⟨_, rfl⟩
  have HQ := Lib.hid hq
  clear hq
  refine (tfew_at A es n c HN.out (by omega) HBX.out _ (HR.out.below HB.out) q HQ.out).mono ?_
  rintro e w2 ⟨rfl, hb⟩
  replace HB := Lib.hid (below_next HB.out (by have := HB.out.size; omega) hb)
  clear hb
  go_wp2_with fail
  refine (efew_at B ev m d HE.out HMM.out HEB.out _ (HRE.out.below HB.out)).mono ?_
  rintro e w2 ⟨rfl, rfl⟩
  cases q with
  | false =>
    go_wp2_with fail
    go_ret
    exact ⟨rfl, HB.out⟩
  | true =>
    have HF := Lib.hid (few_x HQ.out HBX.out HKB.out)
    have HFB := Lib.hid (few_b HQ.out HBX.out)
    have HFT := Lib.hid (few_t HQ.out HXL.out)
    have hn80 : n ≤ 80 := (by have := few_n HQ.out; rw [HN.out] at this; exact this)
    clear HQ HKB
    by_cases hev : Ev.Few ev
    · rw [show decide (Ev.Few ev) = true from decide_eq_true hev]
      clear hev
      go_wp2_with fail
      refine (eright_at B ev m d HE.out HMM.out HEB.out _ (HRE.out.below HB.out)).mono ?_
      rintro e w3 ⟨rfl, hg⟩
      have hb := hg.below
      clear hg
      replace HB := Lib.hid (below_next HB.out (by have := HB.out.size; omega) hb)
      clear hb
      by_cases hri : Ev.Right ev
      · rw [show decide (Ev.Right ev) = true from decide_eq_true hri]
        clear hri
        go_wp2_with fail
        refine (build_at A es n c HN.out (by omega) HF.out _ (HR.out.below HB.out)).mono ?_
        rintro e w3 ⟨g, rfl, hix, hb⟩
        replace HB := Lib.hid (below_next HB.out (by have := HB.out.size; omega) hb)
        clear hb
        have HIX := Lib.hid hix
        clear hix
        go_wp2_with fail
        refine (imeet_at g es n HN.out (by omega) HFT.out HXL.out B ev m d HE.out HMM.out HEB.out _ HIX.out (HRE.out.below HB.out)).mono ?_
        rintro e w4 ⟨B1, m1, d1, rfl, hl, hc, ho, hb⟩
        have HS1 := Lib.hid (HB.out.size)
        replace HB := Lib.hid (below_next HB.out (by have := HB.out.size; omega) hb)
        have HG1 := Lib.hid ho
        have HL1 := Lib.hid hl
        have HC1 := Lib.hid hc
        clear hb ho hl hc
        obtain ⟨_, _, e5, _, hrd⟩ := OwnZ.rd HG1.out
        injection e5 with e5 e6 e7
        rw [← e5] at hrd
        clear e5 e6 e7
        have HRG := Lib.hid hrd
        clear HIX HG1 HS1 hrd
        go_wp2_with fail
        go_loopg [10, 11] n (fun gg s10 s11 wr => ∃ (k q : Nat), k ≤ n ∧ n - k ≤ gg ∧ s11 = .int .i64 (k : Int) ∧ s10 = .int .i64 (q : Int) ∧ q ≤ k ∧ Hid ((metIds (es.take k) ev).length = q) ∧ Hid (Below w4.heap.size w4 wr))
        case atStart => exact ⟨0, 0, Nat.zero_le _, by omega, rfl, rfl, Nat.le_refl _, rfl, Below.refl _ _⟩
        case round =>
          obtain ⟨k, q, hk, hgg, rfl, rfl, hqk, HL, HW⟩ := hrel
          have HB2 := Lib.hid (below_next HB.out (by have := HB.out.size; omega) HW.out)
          by_cases hlt : k < n
          · have hk' : k < es.length := by rw [HN.out]; exact hlt
            obtain ⟨g5, off, rfl, hg, c0, c1, c2, hf⟩ := RdEn.at3 (HR.out.below HB2.out) hk'
            have hsx := HFB.out _ (List.getElem_mem hk')
            obtain ⟨x, hx⟩ : ∃ x, es[k] = x := ⟨_, rfl⟩
            have HX := Lib.hid hx
            rw [hx] at c0 c1 c2 hf hsx
            clear hx
            obtain ⟨xi, xr, xA, xn, xc, xf⟩ := x
            obtain ⟨hf1, hf2, hf3⟩ := hf
            dsimp only at c0 c1 c2 hsx hf1 hf2 hf3
            have w5 : (k : Int) < (n : Int) := by omega
            have HF1 := Lib.hid hf1
            have HF2 := Lib.hid hsx
            have HF3 := Lib.hid hf3
            clear hf1 hf2 hf3 hsx
            obtain ⟨y, hy⟩ : ∃ y, Fil.meets xf ev = y := ⟨_, rfl⟩
            have HY := Lib.hid hy
            clear hy
            go_wp2_with fail
            refine (fmeets_at xA xf xn xc HF1.out (by have := HF2.out.1; omega) HF2.out.2 B ev m d HE.out HMM.out HEB.out _ HF3.out (HRE.out.below HB2.out) y HY.out).mono ?_
            rintro e w6 ⟨rfl, hb⟩
            have HW2 := Lib.hid (below_next HW.out (Nat.le_refl _) hb)
            have HB3 := Lib.hid (below_next HB2.out (by have := HB2.out.size; omega) hb)
            clear c0 c1 c2 hg hb HF3
            cases y with
            | false =>
              have HT : Hid ((metIds (es.take (k + 1)) ev).length = q) := (by show _ = _; rw [met_no hk' HX.out HY.out]; exact HL.out)
              go_wp2_with fail
              go_roundg (n - (k + 1))
              case measure => omega
              case rel => exact ⟨k + 1, q, by omega, Nat.le_refl _, by go_num, rfl, by omega, HT, HW2⟩
            | true =>
              obtain ⟨hq1, hq2⟩ := met_at hk' HX.out HY.out
              rw [HL.out, HL1.out] at hq1
              have hq3 : q < (metIds es ev).length := by rw [HL1.out]; exact hq1
              have hq4 : (metIds es ev)[q] = xi := (by have := hq2; simp only [HL.out] at this; exact this)
              obtain ⟨g6, off6, rfl, hg6, d0⟩ := RdI.at1 (HRG.out.below HW2.out) hq3
              rw [hq4] at d0
              obtain ⟨g', off', e0, hg, c0, c1, c2, _⟩ := RdEn.at3 (HR.out.below HB3.out) hk'
              injection e0 with e0
              injection e0 with e1 e2
              subst e1
              subst e2
              rw [HX.out] at c0
              dsimp only at c0
              have HT : Hid ((metIds (es.take (k + 1)) ev).length = q + 1) := (by show _ = _; rw [met_yes hk' HX.out HY.out, List.length_append, HL.out]; rfl)
              clear hq2 hq3 hq4 c1 c2
              have w7 : (q : Int) < (m1 : Int) := by omega
              have w8 : decide (m1 ≤ q) = false := decide_eq_false (by omega)
              go_wp2_with fail
              have hS0 : w6.drew.cell? ⟨g6, off6 + q, none⟩ = some (.int .i64 xi) ∧ w6.drew.cell? ⟨g5, off + k * 3, none⟩ = some (.int .i64 xi) := ⟨d0, c0⟩
              refine wp_region_held_drew (S := fun w' => w'.cell? ⟨g6, off6 + q, none⟩ = some (.int .i64 xi) ∧ w'.cell? ⟨g5, off + k * 3, none⟩ = some (.int .i64 xi)) (by kernel_rfl) hS0 (fun _ => ?_)
              refine Jz 0 hS0 ?_
              refine Jz 1 hS0 ?_
              refine Jz 2 hS0 ?_
              refine Jz 3 hS0 ?_
              refine Jz 4 hS0 ?_
              refine Jz 5 hS0 ?_
              refine Jz 6 hS0 ?_
              refine Jz 7 hS0 ?_
              refine Jz 8 hS0 ?_
              refine Jz 9 hS0 ?_
              refine Jz 10 hS0 ?_
              refine Jz 11 hS0 ?_
              refine Jz 12 hS0 ?_
              refine Jz 13 hS0 ?_
              refine Jz 14 hS0 ?_
              refine Jz 15 hS0 ?_
              refine Jd ?_
              clear hS0 c0 d0 hg hg6
              have HW3 := Lib.hid HW2.out.drew
              generalize w6.drew = w7 at *
              go_wp2_with fail
              go_roundg (n - (k + 1))
              case measure => omega
              case rel => exact ⟨k + 1, q + 1, by omega, Nat.le_refl _, by go_num, by go_num, by omega, HT, HW3⟩
          · obtain rfl : k = n := by omega
            have hqm : q = m1 := (by rw [← HL.out, ← HL1.out, List.take_of_length_le (by rw [HN.out]; exact Nat.le_refl _)])
            subst hqm
            go_wp2_with fail
            go_ret
            exact ⟨rfl, HB2.out⟩
      · rw [show decide (Ev.Right ev) = false from decide_eq_false hri]
        go_wp2_with fail
        go_ret
        exact ⟨rfl, HB.out⟩
    · rw [show decide (Ev.Few ev) = false from decide_eq_false hev]
      go_wp2_with fail
      go_ret
      exact ⟨rfl, HB.out⟩

/-! ### The row's step. -/
namespace indexNaive
theorem own : ownKnob Try.prog.godebug = none := by kernel_rfl
theorem laidOut : laidOutB Try.prog = true := by kernel_rfl
set_option linter.unusedVariables false in
set_option maxRecDepth 100000 in
theorem lifted (os : Os) (started : os.Started) (H : Type) (enc : TypeId × Value → H) :
    ReturnsInHanded {} Try.checked os 4 .any (Rows.indexNaiveSpec.pre6 enc Try.prog Try.f4 Rows.indexNaiveRow.domain false) (Rows.indexNaiveSpec.post enc Try.prog Try.f4 false true false false) := by
  refine returnsInHanded_of_change_sized (C := Try.checked) own started (by kernel_rfl) Try.func4
    (ChangeSpec.witness6 (enc := enc) (C := Try.checked) false ⟨#[], #[.slice none 0 0, .slice none 0 0], []⟩ 8 (by kernel_rfl) (by kernel_rfl) (by kernel_rfl) (by kernel_rfl)) ?_
  intro W base args ds gs before hval0 hW hcnd hsz0 _
  have hval : ∀ (j : Nat) t v, Try.f4.params[j]? = some t → args[j]? = some v → Value.okWide Try.prog W .any base t v := hval0
  have hsz : (DataW.weightsEach Try.prog (Try.f4.params.toList ++ Rows.indexNaiveSpec.plain.varTypes Try.prog) (ds ++ gs)).all (· ≤ reachBytes) = true := hsz0
  have hW' := hW
  obtain ⟨p, q, hA0, hV, rfl, hfz, hnd⟩ := hW
  have hA : DataW.TrodAll enc Try.prog W 0 (fun _ => true) true Try.f4.params.toList args.toList ds p := hA0
  rw [Try.params4] at hA hval hsz
  obtain ⟨v0, vs0, d0, ds0, p0, q0, hargs, rfl, rfl, h0, r0⟩ := trodAll_cons hA
  obtain ⟨v1, vs1, d1, ds1, p1, q1, rfl, rfl, rfl, h1, r1⟩ := trodAll_cons r0
  obtain ⟨rfl, rfl, rfl⟩ := trodAll_nil r1
  obtain rfl : args = #[v0, v1] := by cases args; simp_all
  obtain ⟨rfl, rfl⟩ := trodVars_none hV
  obtain ⟨a0, len0, cap0, rfl⟩ := okWide_slice Try.underlying22 (hval 0 22 v0 rfl rfl)
  have k0 := h0
  have lt0 : ∀ x ∈ p0, x.block < W.heap.size := by obtain ⟨m, hm⟩ := k0; exact DataW.trod_lt m _ _ _ hm
  obtain ⟨es0, hl0, hc0, hm0, hz0, rd0, hw0⟩ := open_ents_of k0 (fun n hn => by simpa using List.all_eq_true.1 hsz n (DataW.weights_mem_each (j := 0) rfl rfl n hn))
  obtain ⟨a1, len1, cap1, rfl⟩ := okWide_slice Try.underlying31 (hval 1 31 v1 rfl rfl)
  have k1 := h1
  have lt1 : ∀ x ∈ p1, x.block < W.heap.size := by obtain ⟨m, hm⟩ := k1; exact DataW.trod_lt m _ _ _ hm
  obtain ⟨es1, hl1, hc1, hm1, rd1, hw1⟩ := open_attrs_w Try.underlying31 Try.underlying49 (by kernel_rfl) ⟨rfl, rfl, by kernel_rfl⟩ ⟨rfl, rfl, by kernel_rfl⟩ Try.underlying9 Try.underlying45 ⟨rfl, rfl, by kernel_rfl⟩ ⟨rfl, rfl, by kernel_rfl⟩ ⟨rfl, rfl, by kernel_rfl⟩ Try.underlying3 Try.underlying3 Try.underlying9 k1
  clear hA0 hval0
  refine (walk_IndexNaive W a0 es0 len0 cap0 hl0 hc0 hm0 hz0 rd0 hw0 (kb_ents_of k0 es0 hl0 rd0) a1 es1 len1 cap1 hl1 hc1 hm1 rd1 hw1).mono fun e W' ⟨he, bel⟩ => ?_
  subst he
  exact ⟨_, rfl, _, _, _, [], _, [], hW', trodAll_mk1 (shut_bool Try.underlying4 _), (trodAll_cons_mk (Below.trod laidOut (by kernel_rfl) (of_decide_eq_true (by kernel_rfl)) k0 bel lt0) (trodAll_cons_mk (Below.trod laidOut (by kernel_rfl) (of_decide_eq_true (by kernel_rfl)) k1 bel lt1) trodAll_mk0)), rfl, bel.frame _, fun h => by cases h⟩
theorem over : Rows.indexNaiveRow.holds Try.pinned (OpenSpec.ofChange Rows.indexNaiveSpec) :=
  OpenClaim.holds_of_wide 4 Try.f4 rfl rfl rfl rfl rfl rfl rfl ⟨rfl, rfl, rfl, rfl, rfl⟩ rfl rfl rfl rfl rfl (by kernel_rfl) Try.func4 (by kernel_rfl)
    (of_decide_eq_true (by kernel_rfl)) (by unfold Func.isWrapper; first | (rw [if_pos (by decide +kernel)]; kernel_rfl) | (rw [if_neg (by decide +kernel)]; exact ⟨rfl, rfl⟩))
    (fun os started H enc _ => lifted os started H enc)
end indexNaive
/-- THE STATEMENT. -/
theorem indexNaive_holds : Rows.IndexNaiveSaid := indexNaive.over
#print axioms indexNaive_holds
end Go.Proofs.Ytnfigjggjmncdaa
