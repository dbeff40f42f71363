/-
  Which entries an event meets, and how many predicates there are, as the document tells: for every row of entries and every row of events the call of the law answers true, and all arguments read behind it as they read before. No condition.
-/
import Derived.Deep.LoopGhost
import Derived.WalkMore
import Derived.Test.YtnfigjggjmncdaaI6
namespace Go.Proofs.Ytnfigjggjmncdaa
open Go.RowKit Go.ChangeShapes Go.WideShapes Go.ChangeAt Go.Sort Spans Tb
set_option maxRecDepth 100000 in
set_option maxHeartbeats 8000000 in
theorem walk_IndexMeets (w : World) (A : Option Addr) (es : List Ex) (n c : Nat) (hn : es.length = n) (hnc : n ≤ c) (hcm : c ≤ maxLen) (hnz : n ≤ 3600000000000) (hr : RdEn w A es) (hbx : EBx es) (hkb : ∀ x ∈ es, KB x.f) (E : Option Addr) (xs : List Ax) (u v : Nat) (hul : xs.length = u) (huv : u ≤ v) (hvm : v ≤ maxLen) (hevs : RdEv w E xs) :
    Calls Try.prog 3 #[.slice A n c, .slice E u v] w fun e w' => e = .returned (.bool true) ∧ Below w.heap.size w w' := by
  have HN := Lib.hid hn
  have HNC := Lib.hid hnc
  have HR := Lib.hid hr
  have HBX := Lib.hid hbx
  have HKB := Lib.hid hkb
  have HU := Lib.hid hul
  have HEV := Lib.hid hevs
  have HUM : Hid (u ≤ maxLen) := Nat.le_trans huv hvm
  have HXL : Hid (∀ x ∈ es, x.f.length = x.n) := fun x hx => (hr.2 x hx).1
  have HCM := Lib.hid hcm
  clear hn hnc hcm hr hbx hkb hul huv hvm hevs
  go_enter Try.func3, Try.ntmps3
  go_wp2_with fail
  refine (ixsmall_at _).mono ?_
  rintro e w1 ⟨rfl, hb⟩
  have HB := Lib.hid hb
  clear hb
  go_wp2_with fail
  obtain ⟨q, hq⟩ : ∃ q, fewE es = q := ⟨_, rfl⟩
  have HQ := Lib.hid hq
  clear hq
  refine (tfew_at A es n c HN.out (by omega) HBX.out _ (HR.out.below HB.out) q HQ.out).mono ?_
  rintro e w2 ⟨rfl, hb⟩
  replace HB := Lib.hid (below_next HB.out (by have := HB.out.size; omega) hb)
  clear hb
  cases q with
  | false =>
    go_wp2_with fail
    go_ret
    exact ⟨rfl, HB.out⟩
  | true =>
    have HF := Lib.hid (few_x HQ.out HBX.out HKB.out)
    have HFB := Lib.hid (few_b HQ.out HBX.out)
    have HFT := Lib.hid (few_t HQ.out HXL.out)
    have hn80 : n ≤ 80 := (by have := few_n HQ.out; rw [HN.out] at this; exact this)
    clear HQ HKB
    by_cases hu : 20 < u
    · have v1 : decide (20 < u) = true := decide_eq_true hu
      go_wp2_with fail
      go_ret
      exact ⟨rfl, HB.out⟩
    · have v1 : decide (20 < u) = false := decide_eq_false hu
      go_wp2_with fail
      refine (build_at A es n c HN.out (by omega) HF.out _ (HR.out.below HB.out)).mono ?_
      rintro e w3 ⟨g0, rfl, hix, hb⟩
      replace HB := Lib.hid (below_next HB.out (by have := HB.out.size; omega) hb)
      clear hb
      have HI0 := Lib.hid hix
      clear hix
      obtain ⟨z, hz⟩ : ∃ z, (Ix.uq (fls es).flatten).length = z := ⟨_, rfl⟩
      have HZ := Lib.hid hz
      clear hz
      go_wp2_with fail
      refine (size_at g0 es _ HI0.out z HZ.out).mono ?_
      rintro e w9 ⟨rfl, rfl⟩
      go_wp2_with fail
      refine (risize_at A es n c HN.out (by omega) (fun x hx => (HF.out x hx).1) _ (HR.out.below HB.out) z HZ.out).mono ?_
      rintro e w4 ⟨rfl, hb⟩
      replace HI0 := Lib.hid (HI0.out.below hb)
      replace HB := Lib.hid (below_next HB.out (by have := HB.out.size; omega) hb)
      clear hb
      go_wp2_with fail
      go_loopg [8] u (fun gg s8 wr => ∃ i : Nat, i ≤ u ∧ u - i ≤ gg ∧ s8 = .int .i64 (i : Int) ∧ Hid (Below w4.heap.size w4 wr))
      case atStart => exact ⟨0, Nat.zero_le _, by omega, rfl, Below.refl _ _⟩
      case round =>
        obtain ⟨i, hi, hgg, rfl, HW⟩ := hrel
        have HB2 := Lib.hid (below_next HB.out (by have := HB.out.size; omega) HW.out)
        by_cases hlt : i < u
        · have hi' : i < xs.length := by rw [HU.out]; exact hlt
          obtain ⟨ge, oe, rfl, hge, e0⟩ := HEV.out.at_ hi'
          have hin := HEV.out.1 _ (List.getElem_mem hi')
          obtain ⟨x, hx⟩ : ∃ x, xs[i] = x := ⟨_, rfl⟩
          rw [hx] at e0 hin
          clear hx
          obtain ⟨B, m, d, ev⟩ := x
          obtain ⟨he1, he2, he3, he4, he5⟩ := hin
          dsimp only at e0 he1 he2 he3 he4 he5
          have HE := Lib.hid he1
          have HMM : Hid (m ≤ maxLen) := Nat.le_trans he2 he3
          have HRE := Lib.hid he4
          have HEB : Hid (∀ a ∈ ev, a.n.length ≤ maxLen ∧ a.t.length ≤ maxLen) := fun a ha => ⟨(he5 a ha).1, (he5 a ha).2.1⟩
          have HGE := Lib.hid hge
          have HE0 := Lib.hid e0
          clear he1 he2 he3 he4 he5 hge e0
          have w5 : (i : Int) < (u : Int) := by omega
          have e1 : wr.cell? ⟨ge, oe + i, none⟩ = some (.slice B m d) := (HB2.out.cell (p := ⟨ge, oe + i, none⟩) HGE.out).trans HE0.out
          have hlw : ge < wr.heap.size := Nat.lt_of_lt_of_le HGE.out HB2.out.size
          go_wp2_with fail
          refine (efew_at B ev m d HE.out HMM.out HEB.out _ (HRE.out.below HB2.out)).mono ?_
          rintro e w2 ⟨rfl, rfl⟩
          by_cases hev : Ev.Few ev
          · rw [show decide (Ev.Few ev) = true from decide_eq_true hev]
            clear hev
            go_wp2_with fail
            refine (eright_at B ev m d HE.out HMM.out HEB.out _ (HRE.out.below HB2.out)).mono ?_
            rintro e w3 ⟨rfl, hg⟩
            have hb := hg.below
            clear hg
            by_cases hri : Ev.Right ev
            · rw [show decide (Ev.Right ev) = true from decide_eq_true hri]
              clear hri e1 hlw
              replace HW := Lib.hid (below_next HW.out (Nat.le_refl _) hb)
              replace HB2 := Lib.hid (below_next HB.out (by have := HB.out.size; omega) HW.out)
              have e1 : w3.cell? ⟨ge, oe + i, none⟩ = some (.slice B m d) := (HB2.out.cell (p := ⟨ge, oe + i, none⟩) HGE.out).trans HE0.out
              have hlw : ge < w3.heap.size := Nat.lt_of_lt_of_le HGE.out HB2.out.size
              clear hb
              go_wp2_with fail
              refine (imeet_at g0 es n HN.out (by omega) HFT.out HXL.out B ev m d HE.out HMM.out HEB.out _ (HI0.out.below HW.out) (HRE.out.below HB2.out)).mono ?_
              rintro e w6 ⟨B1, m1, d1, rfl, hl, hc, ho, hb⟩
              have HOB : Hid (Below w3.heap.size w3 w6) := hb
              have HM := Lib.hid (HW.out)
              have HMB := Lib.hid HB2.out
              clear e1 hlw
              replace HW := Lib.hid (below_next HW.out (Nat.le_refl _) hb)
              replace HB2 := Lib.hid (below_next HB.out (by have := HB.out.size; omega) HW.out)
              have e1 : w6.cell? ⟨ge, oe + i, none⟩ = some (.slice B m d) := (HB2.out.cell (p := ⟨ge, oe + i, none⟩) HGE.out).trans HE0.out
              have hlw : ge < w6.heap.size := Nat.lt_of_lt_of_le HGE.out HB2.out.size
              have HO := Lib.hid ho
              have HL := Lib.hid hl
              clear ho hl hb hc
              go_wp2_with fail
              clear e1 hlw
              refine (rimeet_at A es n c HN.out (by omega) HFB.out B ev m d HE.out HMM.out HEB.out _ (HR.out.below HB2.out) (HRE.out.below HB2.out)).mono ?_
              rintro e w7 ⟨B2, m2, d2, rfl, hl2, hc2, ho2, hb⟩
              replace HO := Lib.hid (OwnZ.below HO.out hb)
              replace HOB := Lib.hid (below_next HOB.out (Nat.le_refl _) hb)
              replace HW := Lib.hid (below_next HW.out (Nat.le_refl _) hb)
              replace HB2 := Lib.hid (below_next HB.out (by have := HB.out.size; omega) HW.out)
              have e1 : w7.cell? ⟨ge, oe + i, none⟩ = some (.slice B m d) := (HB2.out.cell (p := ⟨ge, oe + i, none⟩) HGE.out).trans HE0.out
              have hlw : ge < w7.heap.size := Nat.lt_of_lt_of_le HGE.out HB2.out.size
              obtain ⟨_, _, e5, _, hrd⟩ := OwnZ.rd HO.out
              injection e5 with e5 e6 e7
              rw [← e5] at hrd
              clear e5 e6 e7
              obtain ⟨_, _, e5, _, hrd2⟩ := OwnZ.rd ho2
              injection e5 with e5 e6 e7
              rw [← e5] at hrd2
              clear e5 e6 e7 ho2 hc2 hb
              have hm1 : m1 ≤ 80 := (by rw [← HL.out]; have := met_len es ev; rw [HN.out] at this; omega)
              have hm2 : m2 ≤ 80 := (by rw [← hl2]; have := met_len es ev; rw [HN.out] at this; omega)
              go_wp2_with fail
              refine (ints_at B1 (metIds es ev) m1 d1 HL.out B2 (metIds es ev) m2 d2 hl2 ⟨by omega, by omega⟩ _ hrd hrd2 true ⟨fun _ => rfl, fun _ => rfl⟩).mono ?_
              rintro e w8 ⟨rfl, hb⟩
              replace HO := Lib.hid (OwnZ.below HO.out hb)
              replace HOB := Lib.hid (below_next HOB.out (Nat.le_refl _) hb)
              clear hrd hrd2 hl2 hm2 e1 hlw hb
              obtain ⟨aa, haa⟩ : ∃ aa, metIds es ev = aa := ⟨_, rfl⟩
              rw [haa] at HO HL
              clear haa HW HB2
              go_wp2_with fail
              go_loopg [12] m1 (fun g2 s12 wr => ∃ (j : Nat) (l2 : List Int), j ≤ m1 ∧ m1 - j ≤ g2 ∧ s12 = .int .i64 (j : Int) ∧ Hid (l2.length = m1) ∧ Hid (OwnZ layI wr w3.heap.size (.slice B1 m1 d1) l2) ∧ Hid (Below w3.heap.size w3 wr))
              case atStart => exact ⟨0, aa, Nat.zero_le _, by omega, rfl, HL, HO, HOB⟩
              case round =>
                clear HO HOB HL
                obtain ⟨j, l2, hj, hgj, rfl, HL, HO, HOB⟩ := hrel
                by_cases hlj : j < m1
                · obtain ⟨g7, rfl, hg7, hlt7, ⟨u7, c7⟩, f7, hp7⟩ := OwnZ.put1 HO.out HL.out hlj
                  have w6 : (j : Int) < (m1 : Int) := by omega
                  have HP := Lib.hid (hp7 (-7))
                  have HB7 : Hid (Below w3.heap.size w3 (wr.setCell ⟨g7, j, none⟩ (.int .i64 (-7)))) := below_set HOB.out hg7
                  have HL7 : Hid ((l2.set j (-7)).length = m1) := (by show _ = _; rw [List.length_set]; exact HL.out)
                  clear hp7
                  go_wp2_with fail
                  clear c7 f7
                  go_roundg (m1 - (j + 1))
                  case measure => omega
                  case rel => exact ⟨j + 1, _, by omega, Nat.le_refl _, by go_num, HL7, HP, HB7⟩
                · obtain rfl : j = m1 := by omega
                  have HW := Lib.hid (below_next HM.out (Nat.le_refl _) HOB.out)
                  have HB2 := Lib.hid (below_next HB.out (by have := HB.out.size; omega) HW.out)
                  have e1 : wr.cell? ⟨ge, oe + i, none⟩ = some (.slice B m d) := (HB2.out.cell (p := ⟨ge, oe + i, none⟩) HGE.out).trans HE0.out
                  have hlw : ge < wr.heap.size := Nat.lt_of_lt_of_le HGE.out HB2.out.size
                  clear HO HOB HL
                  go_wp2_with fail
                  have hS0 : Below wr.heap.size wr wr.drew := (Below.refl _ _).drew
                  refine wp_region_held_drew (S := fun w' => Below wr.heap.size wr w') (by kernel_rfl) hS0 (fun _ => ?_)
                  refine Jz 0 hS0 ?_ (hv := by intro w' hSw; have r0 := (hSw.cell (p := ⟨ge, oe + i, none⟩) hlw).trans e1; go_simp <;> with_reducible rfl)
                  refine Jz 1 hS0 ?_ (hv := by intro w' hSw; have r0 := (hSw.cell (p := ⟨ge, oe + i, none⟩) hlw).trans e1; go_simp <;> with_reducible rfl)
                  refine Jz 2 hS0 ?_ (hv := by intro w' hSw; have r0 := (hSw.cell (p := ⟨ge, oe + i, none⟩) hlw).trans e1; go_simp <;> with_reducible rfl)
                  refine Jz 3 hS0 ?_ (hv := by intro w' hSw; have r0 := (hSw.cell (p := ⟨ge, oe + i, none⟩) hlw).trans e1; go_simp <;> with_reducible rfl)
                  refine Jz 4 hS0 ?_ (hv := by intro w' hSw; have r0 := (hSw.cell (p := ⟨ge, oe + i, none⟩) hlw).trans e1; go_simp <;> with_reducible rfl)
                  refine Jz 5 hS0 ?_ (hv := by intro w' hSw; have r0 := (hSw.cell (p := ⟨ge, oe + i, none⟩) hlw).trans e1; go_simp <;> with_reducible rfl)
                  refine Jz 6 hS0 ?_ (hv := by intro w' hSw; have r0 := (hSw.cell (p := ⟨ge, oe + i, none⟩) hlw).trans e1; go_simp <;> with_reducible rfl)
                  refine Jz 7 hS0 ?_ (hv := by intro w' hSw; have r0 := (hSw.cell (p := ⟨ge, oe + i, none⟩) hlw).trans e1; go_simp <;> with_reducible rfl)
                  refine Jz 9 hS0 ?_ (hv := by intro w' hSw; have r0 := (hSw.cell (p := ⟨ge, oe + i, none⟩) hlw).trans e1; go_simp <;> with_reducible rfl)
                  refine Jz 10 hS0 ?_ (hv := by intro w' hSw; have r0 := (hSw.cell (p := ⟨ge, oe + i, none⟩) hlw).trans e1; go_simp <;> with_reducible rfl)
                  refine Jz 11 hS0 ?_ (hv := by intro w' hSw; have r0 := (hSw.cell (p := ⟨ge, oe + i, none⟩) hlw).trans e1; go_simp <;> with_reducible rfl)
                  refine Jz 12 hS0 ?_ (hv := by intro w' hSw; have r0 := (hSw.cell (p := ⟨ge, oe + i, none⟩) hlw).trans e1; go_simp <;> with_reducible rfl)
                  refine Jz 13 hS0 ?_ (hv := by intro w' hSw; have r0 := (hSw.cell (p := ⟨ge, oe + i, none⟩) hlw).trans e1; go_simp <;> with_reducible rfl)
                  refine Je 8 (fun K hK1 => ?_)
                  go_simp
                  with_reducible refine (imeet_at g0 es n HN.out (by omega) HFT.out HXL.out B ev m d HE.out HMM.out HEB.out _ ((HI0.out.below HW.out).below hS0) ((HRE.out.below HB2.out).below hS0)).mono ?_
                  rintro e w8 ⟨B3, m3, d3, rfl, hl3, hc3, ho3, hb⟩
                  have hS8 := below_next hS0 (Nat.le_refl _) hb
                  have hr3 := ho3.rd
                  obtain ⟨_, _, e5, _, hrd3⟩ := hr3
                  injection e5 with e5 e6 e7
                  rw [← e5] at hrd3
                  clear e5 e6 e7 ho3 hc3 hb
                  go_wp2_with fail
                  refine hK1.out _ _ hS8 ?_
                  clear hK1
                  refine Je 14 (fun K hK2 => ?_)
                  go_simp
                  with_reducible refine (rimeet_at A es n c HN.out (by omega) HFB.out B ev m d HE.out HMM.out HEB.out _ ((HR.out.below HB2.out).below hS8) ((HRE.out.below HB2.out).below hS8)).mono ?_
                  rintro e w9 ⟨B4, m4, d4, rfl, hl4, hc4, ho4, hb⟩
                  have hS9 := below_next hS8 (Nat.le_refl _) hb
                  have hrd5 := hrd3.below hb
                  have hr4 := ho4.rd
                  obtain ⟨_, _, e5, _, hrd4⟩ := hr4
                  injection e5 with e5 e6 e7
                  rw [← e5] at hrd4
                  clear e5 e6 e7 ho4 hc4 hb hrd3
                  go_wp2_with fail
                  refine hK2.out _ _ hS9 ?_
                  clear hK2
                  have hm3 : m3 ≤ 80 := (by rw [← hl3]; have := met_len es ev; rw [HN.out] at this; omega)
                  have hm4 : m4 ≤ 80 := (by rw [← hl4]; have := met_len es ev; rw [HN.out] at this; omega)
                  refine Je 15 (fun K hK3 => ?_)
                  go_simp
                  with_reducible refine (ints_at B3 (metIds es ev) m3 d3 hl3 B4 (metIds es ev) m4 d4 hl4 ⟨by omega, by omega⟩ _ hrd5 hrd4 true ⟨fun _ => rfl, fun _ => rfl⟩).mono ?_
                  rintro e w10 ⟨rfl, hb⟩
                  have hSA := below_next hS9 (Nat.le_refl _) hb
                  clear hb hrd5 hrd4 hl3 hl4
                  go_wp2_with fail
                  refine hK3.out _ _ hSA ?_
                  clear hK3
                  refine Jz 16 hSA ?_
                  refine Jz 17 hSA ?_
                  refine Jd ?_
                  have HWn := Lib.hid (below_next HW.out (Nat.le_refl _) hSA)
                  clear hS0 hS8 hS9 hSA e1 hlw
                  go_wp2_with fail
                  go_roundg (u - (i + 1))
                  case measure => omega
                  case rel => exact ⟨i + 1, by omega, Nat.le_refl _, by go_num, HWn⟩
            · rw [show decide (Ev.Right ev) = false from decide_eq_false hri]
              have hb2 := below_next HB2.out (by have := HB2.out.size; omega) hb
              go_wp2_with fail
              go_ret
              exact ⟨rfl, hb2⟩
          · rw [show decide (Ev.Few ev) = false from decide_eq_false hev]
            go_wp2_with fail
            go_ret
            exact ⟨rfl, HB2.out⟩
        · obtain rfl : i = u := by omega
          go_wp2_with fail
          go_ret
          exact ⟨rfl, HB2.out⟩

/-! ### The row's step. -/
namespace indexMeets
theorem own : ownKnob Try.prog.godebug = none := by kernel_rfl
theorem laidOut : laidOutB Try.prog = true := by kernel_rfl
set_option linter.unusedVariables false in
set_option maxRecDepth 100000 in
theorem lifted (os : Os) (started : os.Started) (H : Type) (enc : TypeId × Value → H) :
    ReturnsInHanded {} Try.checked os 3 .any (Rows.indexMeetsSpec.pre6 enc Try.prog Try.f3 Rows.indexMeetsRow.domain false) (Rows.indexMeetsSpec.post enc Try.prog Try.f3 false true false false) := by
  refine returnsInHanded_of_change_sized (C := Try.checked) own started (by kernel_rfl) Try.func3
    (ChangeSpec.witness6 (enc := enc) (C := Try.checked) false ⟨#[], #[.slice none 0 0, .slice none 0 0], []⟩ 8 (by kernel_rfl) (by kernel_rfl) (by kernel_rfl) (by kernel_rfl)) ?_
  intro W base args ds gs before hval0 hW hcnd hsz0 _
  have hval : ∀ (j : Nat) t v, Try.f3.params[j]? = some t → args[j]? = some v → Value.okWide Try.prog W .any base t v := hval0
  have hsz : (DataW.weightsEach Try.prog (Try.f3.params.toList ++ Rows.indexMeetsSpec.plain.varTypes Try.prog) (ds ++ gs)).all (· ≤ reachBytes) = true := hsz0
  have hW' := hW
  obtain ⟨p, q, hA0, hV, rfl, hfz, hnd⟩ := hW
  have hA : DataW.TrodAll enc Try.prog W 0 (fun _ => true) true Try.f3.params.toList args.toList ds p := hA0
  rw [Try.params3] at hA hval hsz
  obtain ⟨v0, vs0, d0, ds0, p0, q0, hargs, rfl, rfl, h0, r0⟩ := trodAll_cons hA
  obtain ⟨v1, vs1, d1, ds1, p1, q1, rfl, rfl, rfl, h1, r1⟩ := trodAll_cons r0
  obtain ⟨rfl, rfl, rfl⟩ := trodAll_nil r1
  obtain rfl : args = #[v0, v1] := by cases args; simp_all
  obtain ⟨rfl, rfl⟩ := trodVars_none hV
  obtain ⟨a0, len0, cap0, rfl⟩ := okWide_slice Try.underlying22 (hval 0 22 v0 rfl rfl)
  have k0 := h0
  have lt0 : ∀ x ∈ p0, x.block < W.heap.size := by obtain ⟨m, hm⟩ := k0; exact DataW.trod_lt m _ _ _ hm
  obtain ⟨es0, hl0, hc0, hm0, hz0, rd0, hw0⟩ := open_ents_of k0 (fun n hn => by simpa using List.all_eq_true.1 hsz n (DataW.weights_mem_each (j := 0) rfl rfl n hn))
  obtain ⟨a1, len1, cap1, rfl⟩ := okWide_slice Try.underlying23 (hval 1 23 v1 rfl rfl)
  have k1 := h1
  have lt1 : ∀ x ∈ p1, x.block < W.heap.size := by obtain ⟨m, hm⟩ := k1; exact DataW.trod_lt m _ _ _ hm
  obtain ⟨xs1, hl1, hc1, hm1, rd1⟩ := open_evs_of k1
  clear hA0 hval0
  refine (walk_IndexMeets W a0 es0 len0 cap0 hl0 hc0 hm0 hz0 rd0 hw0 (kb_ents_of k0 es0 hl0 rd0) a1 xs1 len1 cap1 hl1 hc1 hm1 rd1).mono fun e W' ⟨he, bel⟩ => ?_
  subst he
  exact ⟨_, rfl, _, _, _, [], _, [], hW', trodAll_mk1 (shut_bool Try.underlying4 _), (trodAll_cons_mk (Below.trod laidOut (by kernel_rfl) (of_decide_eq_true (by kernel_rfl)) k0 bel lt0) (trodAll_cons_mk (Below.trod laidOut (by kernel_rfl) (of_decide_eq_true (by kernel_rfl)) k1 bel lt1) trodAll_mk0)), rfl, bel.frame _, fun h => by cases h⟩
theorem over : Rows.indexMeetsRow.holds Try.pinned (OpenSpec.ofChange Rows.indexMeetsSpec) :=
  OpenClaim.holds_of_wide 3 Try.f3 rfl rfl rfl rfl rfl rfl rfl ⟨rfl, rfl, rfl, rfl, rfl⟩ rfl rfl rfl rfl rfl (by kernel_rfl) Try.func3 (by kernel_rfl)
    (of_decide_eq_true (by kernel_rfl)) (by unfold Func.isWrapper; first | (rw [if_pos (by decide +kernel)]; kernel_rfl) | (rw [if_neg (by decide +kernel)]; exact ⟨rfl, rfl⟩))
    (fun os started H enc _ => lifted os started H enc)
end indexMeets
/-- THE STATEMENT. -/
theorem indexMeets_holds : Rows.IndexMeetsSaid := indexMeets.over
#print axioms indexMeets_holds
end Go.Proofs.Ytnfigjggjmncdaa
