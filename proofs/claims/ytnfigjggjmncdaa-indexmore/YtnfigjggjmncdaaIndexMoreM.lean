/-
  An event with one attribute more meets no fewer: for every row of entries, every row of attributes and every place the call of the law answers true, and all arguments read behind it as they read before. No condition.
-/
import Derived.Deep.LoopGhost
import Derived.WalkMore
import Derived.Test.YtnfigjggjmncdaaI6
namespace Go.Proofs.Ytnfigjggjmncdaa
open Go.RowKit Go.ChangeShapes Go.WideShapes Go.ChangeAt Go.Sort Spans Tb
set_option maxRecDepth 100000 in
set_option maxHeartbeats 8000000 in
theorem walk_IndexMore (w : World) (A : Option Addr) (es : List Ex) (n c : Nat) (hn : es.length = n) (hnc : n ≤ c) (hcm : c ≤ maxLen) (hnz : n ≤ 3600000000000) (hr : RdEn w A es) (hbx : EBx es) (hkb : ∀ x ∈ es, KB x.f) (B : Option Addr) (ev : List Ev.At) (m d : Nat) (hes : ev.length = m) (hec : m ≤ d) (hem : d ≤ maxLen) (hre : RdA w B ev) (hle : ∀ a ∈ ev, a.n.length ≤ maxLen ∧ a.t.length ≤ maxLen ∧ (Lit.int .i64 a.i).wf = true) (kz : Int) (wk : (Lit.int .i64 kz).wf = true) :
    Calls Try.prog 6 #[.slice A n c, .slice B m d, .int .i64 kz] w fun e w' => e = .returned (.bool true) ∧ Below w.heap.size w w' := by
  have HN := Lib.hid hn
  have HNC := Lib.hid hnc
  have HR := Lib.hid hr
  have HBX := Lib.hid hbx
  have HKB := Lib.hid hkb
  have HE := Lib.hid hes
  have HRE := Lib.hid hre
  have HXL : Hid (∀ x ∈ es, x.f.length = x.n) := fun x hx => (hr.2 x hx).1
  have HEB : Hid (∀ a ∈ ev, a.n.length ≤ maxLen ∧ a.t.length ≤ maxLen) := fun a ha => ⟨(hle a ha).1, (hle a ha).2.1⟩
  have HMM : Hid (m ≤ maxLen) := Nat.le_trans hec hem
  have HMD := Lib.hid hec
  have HCM := Lib.hid hcm
  clear hn hnc hcm hr hbx hkb hes hec hem hre hle
  go_enter Try.func6, Try.ntmps6
  go_wp2_with fail
  refine (ixsmall_at _).mono ?_
  rintro e w1 ⟨rfl, hb⟩
  have HB := Lib.hid hb
  clear hb
  go_wp2_with fail
  obtain ⟨q, hq⟩ : ∃ q, fewE es = q := ⟨_, rfl⟩
  have HQ := Lib.hid hq
  clear hq
  refine (tfew_at A es n c HN.out (by omega) HBX.out _ (HR.out.below HB.out) q HQ.out).mono ?_
  rintro e w2 ⟨rfl, hb⟩
  replace HB := Lib.hid (below_next HB.out (by have := HB.out.size; omega) hb)
  clear hb
  go_wp2_with fail
  refine (efew_at B ev m d HE.out HMM.out HEB.out _ (HRE.out.below HB.out)).mono ?_
  rintro e w2 ⟨rfl, rfl⟩
  cases q with
  | false =>
    go_wp2_with fail
    go_ret
    exact ⟨rfl, HB.out⟩
  | true =>
    have HF := Lib.hid (few_x HQ.out HBX.out HKB.out)
    have HFB := Lib.hid (few_b HQ.out HBX.out)
    have HFT := Lib.hid (few_t HQ.out HXL.out)
    have hn80 : n ≤ 80 := (by have := few_n HQ.out; rw [HN.out] at this; exact this)
    clear HQ HKB
    by_cases hev : Ev.Few ev
    · rw [show decide (Ev.Few ev) = true from decide_eq_true hev]
      clear hev
      go_wp2_with fail
      refine (eright_at B ev m d HE.out HMM.out HEB.out _ (HRE.out.below HB.out)).mono ?_
      rintro e w3 ⟨rfl, hg⟩
      have hb := hg.below
      clear hg
      replace HB := Lib.hid (below_next HB.out (by have := HB.out.size; omega) hb)
      clear hb
      by_cases hri : Ev.Right ev
      · rw [show decide (Ev.Right ev) = true from decide_eq_true hri]
        have HRI := Lib.hid hri
        clear hri
        by_cases hneg : kz < 0
        · have v1 : decide (kz < 0) = true := decide_eq_true hneg
          go_wp2_with fail
          go_ret
          exact ⟨rfl, HB.out⟩
        · obtain ⟨k, rfl⟩ : ∃ k : Nat, kz = (k : Int) := ⟨kz.toNat, by omega⟩
          clear hneg wk
          have v1 : decide ((k : Int) < 0) = false := decide_eq_false (by omega)
          by_cases hge : m ≤ k
          · have v2 : decide (m ≤ k) = true := decide_eq_true hge
            go_wp2_with fail
            go_ret
            exact ⟨rfl, HB.out⟩
          · have v2 : decide (m ≤ k) = false := decide_eq_false hge
            have hkm : k < m := by omega
            go_wp2_with fail
            refine (build_at A es n c HN.out (by omega) HF.out _ (HR.out.below HB.out)).mono ?_
            rintro e w3 ⟨g0, rfl, hix, hb⟩
            replace HB := Lib.hid (below_next HB.out (by have := HB.out.size; omega) hb)
            clear hb
            have HI0 := Lib.hid hix
            clear hix
            go_wp2_with fail
            refine (imeet_at g0 es n HN.out (by omega) HFT.out HXL.out B ev m d HE.out HMM.out HEB.out _ HI0.out (HRE.out.below HB.out)).mono ?_
            rintro e w4 ⟨B0, m0, d0, rfl, hl, hc, ho, hb⟩
            have HS0 := Lib.hid (HB.out.size)
            replace HI0 := Lib.hid (HI0.out.below hb)
            replace HB := Lib.hid (below_next HB.out (by have := HB.out.size; omega) hb)
            have HG0 := Lib.hid ho
            have HL0 := Lib.hid hl
            have HC0 := Lib.hid hc
            clear hb ho hl hc
            obtain ⟨_, _, e5, _, hrd⟩ := OwnZ.rd HG0.out
            injection e5 with e5 e6 e7
            rw [← e5] at hrd
            clear e5 e6 e7
            have HRR0 := Lib.hid hrd
            clear HG0 HS0 hrd
            have hm24 : m ≤ 24 := (by rw [← HE.out]; exact HRI.out.1)
            have HL1 : Hid ((ev.take k).length = k) := (by show _ = _; rw [List.length_take, HE.out]; omega)
            have HL2 : Hid ((ev.drop (k + 1)).length = m - (k + 1)) := (by show _ = _; rw [List.length_drop, HE.out])
            have HLL : Hid ((ev.take k ++ ev.drop (k + 1)).length = m - 1) := (by show _ = _; rw [List.length_append, HL1.out, HL2.out]; omega)
            have HWL : Hid (∀ a ∈ ev.take k ++ ev.drop (k + 1), a.n.length ≤ maxLen ∧ a.t.length ≤ maxLen) := fun a ha => (by rcases List.mem_append.1 ha with ha | ha; exact HEB.out a (List.mem_of_mem_take ha); exact HEB.out a (List.mem_of_mem_drop ha))
            have HSB := Lib.hid (less_sub HRI.out k es)
            have hhd := run_headA B m d k (by omega) HMD.out
            obtain ⟨B2, hct0, hrc⟩ := run_cutA (k := k + 1) HRE.out HE.out (by omega) HMD.out
            have hct : ∀ W, (Instr.slice 31 (.slice B m d) (some (.int .i64 ((k : Int) + 1))) none none).run Try.prog W = .ok (.slice B2 (m - (k + 1)) (d - (k + 1))) W := hct0
            have HRC := Lib.hid hrc
            clear hct0 hrc
            have hwk : IntKind.i64.wrap ((k : Int) + 1) = (k : Int) + 1 := by rw [IntKind.wrap_i64]; omega
            go_wp2_with fail
            have hS0 : Below w4.heap.size w4 w4.drew := (Below.refl _ _).drew
            refine wp_region_held_drew (S := fun w' => Below w4.heap.size w4 w') (by kernel_rfl) hS0 (fun _ => ?_)
            refine Jz 0 hS0 ?_
            refine Jz 2 hS0 ?_
            refine Jz 3 hS0 ?_
            refine Jz 4 hS0 ?_
            refine Jz 6 hS0 ?_
            refine Jz 7 hS0 ?_
            refine Jz 8 hS0 ?_
            refine Jz 9 hS0 ?_
            refine Je 1 (fun K hK1 => ?_)
            go_simp
            have hb5 : Below w4.heap.size w4 (w4.alloc (.cells #[] 49)).drew := ((Below.refl _ _).alloc (Nat.le_refl _) _).drew
            have hO5 : OwnA (w4.alloc (.cells #[] 49)).drew w4.heap.size (.slice (some ⟨w4.heap.size, 0, none⟩) 0 0) [] := OwnA.empty w4 w4.heap.size (Nat.le_refl _)
            refine hK1.out _ _ hb5 ?_
            refine Je 5 (fun K hK2 => ?_)
            refine op_append_a (.tmp 50) (.tmp 53) rfl w4.heap.size (.slice (some ⟨w4.heap.size, 0, none⟩) 0 0) [] (by rfl) hO5 B (ev.take k) k d (by rfl) (((HRE.out.below HB.out).take k).below hb5) HL1.out (by simp; omega) hb5.size ?_
            intro v6 w6 hO6 hb6'
            have hb6 := hb6' w4 hb5
            rw [List.nil_append] at hO6
            refine hK2.out _ _ hb6 ?_
            simp only [Act.put, zu0, zu1, zu2]
            refine Je 10 (fun K hK3 => ?_)
            refine op_append_a (.tmp 54) (.tmp 58) rfl w4.heap.size v6 (ev.take k) (by rfl) hO6 B2 (ev.drop (k + 1)) (m - (k + 1)) (d - (k + 1)) (by rfl) ((HRC.out.below HB.out).below hb6) HL2.out (by rw [HL1.out]; omega) hb6.size ?_
            intro v7 w7 hO7 hb7'
            have hb7 := hb7' w4 hb6
            obtain ⟨A7, c7, rfl, hc7, hr7⟩ := hO7.rd
            rw [HLL.out] at hc7 ⊢
            refine hK3.out _ _ hb7 ?_
            simp only [Act.put, zu0, zu1, zu2]
            refine Je 11 (fun K hK4 => ?_)
            go_simp
            have HR7 := Lib.hid hr7
            clear hK1 hK2 hK3 hb6' hb7' hO5 hO6 hO7 hb5 hb6 hc7 hr7 hS0
            with_reducible refine (imeet_at g0 es n HN.out (by omega) HFT.out HXL.out A7 (ev.take k ++ ev.drop (k + 1)) (m - 1) c7 HLL.out (by rw [maxLen_num]; omega) HWL.out _ (HI0.out.below hb7) HR7.out).mono ?_
            rintro e w8 ⟨B1, m1, d1, rfl, hl, hc, ho, hb⟩
            have hb8 := below_next hb7 (Nat.le_refl _) hb
            obtain ⟨_, _, e5, _, hrd⟩ := OwnZ.rd ho
            injection e5 with e5 e6 e7
            rw [← e5] at hrd
            clear e5 e6 e7 ho hb hb7 hc
            go_wp2_with fail
            refine hK4.out _ _ hb8 ?_
            clear hK4
            refine Jz 12 hb8 ?_
            refine Jd ?_
            have HRR1 := Lib.hid hrd
            have HL3 := Lib.hid hl
            replace HRR0 := Lib.hid (HRR0.out.below hb8)
            replace HB := Lib.hid (below_next HB.out (by have := HB.out.size; omega) hb8)
            clear hrd hl hb8 hhd hct hwk HI0 HR7
            obtain ⟨aa, haa⟩ : ∃ aa, metIds es ev = aa := ⟨_, rfl⟩
            obtain ⟨bb, hbb⟩ : ∃ bb, metIds es (ev.take k ++ ev.drop (k + 1)) = bb := ⟨_, rfl⟩
            have hm0 : m0 ≤ 80 := (by rw [← HL0.out]; have := met_len es ev; rw [HN.out] at this; omega)
            rw [haa] at HRR0 HL0 HSB
            rw [hbb] at HRR1 HL3 HSB
            clear haa hbb
            go_wp2_with fail
            go_loopg [13, 14] m0 (fun gg s13 s14 wr => ∃ i q : Nat, i ≤ m0 ∧ m0 - i ≤ gg ∧ q ≤ m1 ∧ q ≤ i ∧ s14 = .int .i64 (i : Int) ∧ s13 = .int .i64 (q : Int) ∧ Hid ((bb.drop q).Sublist (aa.drop i)) ∧ Hid (Below w8.heap.size w8 wr))
            case atStart => exact ⟨0, 0, Nat.zero_le _, by omega, Nat.zero_le _, Nat.le_refl _, rfl, rfl, HSB, Below.refl _ _⟩
            case round =>
              obtain ⟨i, q, hi, hgg, hq, hqi, rfl, rfl, HS, HW⟩ := hrel
              have HB2 := Lib.hid (below_next HB.out (by have := HB.out.size; omega) HW.out)
              by_cases hlt : i < m0
              · have w5 : (i : Int) < (m0 : Int) := by omega
                by_cases hlq : q < m1
                · have w6 : (q : Int) < (m1 : Int) := by omega
                  have h1 : i < aa.length := by rw [HL0.out]; exact hlt
                  have h2 : q < bb.length := by rw [HL3.out]; exact hlq
                  have hhit := fun e => sub_hit h1 h2 HS.out e
                  have hmiss := fun e => sub_miss h1 h2 HS.out e
                  obtain ⟨g6, off6, rfl, hg6, d0⟩ := RdI.at1 (HRR0.out.below HW.out) h1
                  obtain ⟨g7, off7, rfl, hg7, d1'⟩ := RdI.at1 (HRR1.out.below HW.out) h2
                  generalize aa[i] = u at *
                  generalize bb[q] = v at *
                  have HHIT := Lib.hid hhit
                  have HMISS := Lib.hid hmiss
                  clear hhit hmiss h1 h2
                  go_wp2_with fail
                  have hS0 : wr.drew.cell? ⟨g6, off6 + i, none⟩ = some (.int .i64 u) ∧ wr.drew.cell? ⟨g7, off7 + q, none⟩ = some (.int .i64 v) := ⟨d0, d1'⟩
                  refine wp_region_held_drew (S := fun w' => w'.cell? ⟨g6, off6 + i, none⟩ = some (.int .i64 u) ∧ w'.cell? ⟨g7, off7 + q, none⟩ = some (.int .i64 v)) (by kernel_rfl) hS0 (fun _ => ?_)
                  refine Jz 0 hS0 ?_
                  refine Jz 1 hS0 ?_
                  refine Jz 2 hS0 ?_
                  refine Jz 3 hS0 ?_
                  refine Jz 4 hS0 ?_
                  refine Jz 5 hS0 ?_
                  refine Jz 6 hS0 ?_
                  refine Jz 7 hS0 ?_
                  refine Jz 8 hS0 ?_
                  refine Jd ?_
                  clear hS0 d0 d1' hg6 hg7
                  have HW3 := Lib.hid HW.out.drew
                  generalize wr.drew = w9 at *
                  by_cases he : u = v
                  · have v3 : (u == v) = true := beq_iff_eq.2 he
                    have HS2 := Lib.hid (HHIT.out he)
                    clear he
                    go_wp2_with fail
                    go_roundg (m0 - (i + 1))
                    case measure => omega
                    case rel => exact ⟨i + 1, q + 1, by omega, Nat.le_refl _, by omega, by omega, by go_num, by go_num, HS2, HW3⟩
                  · have v3 : (u == v) = false := beq_eq_false_iff_ne.2 he
                    have HS2 := Lib.hid (HMISS.out he)
                    clear he
                    go_wp2_with fail
                    go_roundg (m0 - (i + 1))
                    case measure => omega
                    case rel => exact ⟨i + 1, q, by omega, Nat.le_refl _, by omega, by omega, by go_num, rfl, HS2, HW3⟩
                · obtain rfl : q = m1 := by omega
                  go_wp2_with fail
                  go_ret
                  exact ⟨rfl, HB2.out⟩
              · obtain rfl : i = m0 := by omega
                obtain rfl : q = m1 := (by have := HS.out; rw [← HL0.out] at this; rw [sub_end (by rw [HL3.out]; exact hq) this]; exact HL3.out)
                go_wp2_with fail
                go_ret
                exact ⟨rfl, HB2.out⟩
      · rw [show decide (Ev.Right ev) = false from decide_eq_false hri]
        go_wp2_with fail
        go_ret
        exact ⟨rfl, HB.out⟩
    · rw [show decide (Ev.Few ev) = false from decide_eq_false hev]
      go_wp2_with fail
      go_ret
      exact ⟨rfl, HB.out⟩

/-! ### The row's step. -/
namespace indexMore
theorem own : ownKnob Try.prog.godebug = none := by kernel_rfl
theorem laidOut : laidOutB Try.prog = true := by kernel_rfl
set_option linter.unusedVariables false in
set_option maxRecDepth 100000 in
theorem lifted (os : Os) (started : os.Started) (H : Type) (enc : TypeId × Value → H) :
    ReturnsInHanded {} Try.checked os 6 .any (Rows.indexMoreSpec.pre6 enc Try.prog Try.f6 Rows.indexMoreRow.domain false) (Rows.indexMoreSpec.post enc Try.prog Try.f6 false true false false) := by
  refine returnsInHanded_of_change_sized (C := Try.checked) own started (by kernel_rfl) Try.func6
    (ChangeSpec.witness6 (enc := enc) (C := Try.checked) false ⟨#[], #[.slice none 0 0, .slice none 0 0, .int .i64 0], []⟩ 8 (by kernel_rfl) (by kernel_rfl) (by kernel_rfl) (by kernel_rfl)) ?_
  intro W base args ds gs before hval0 hW hcnd hsz0 _
  have hval : ∀ (j : Nat) t v, Try.f6.params[j]? = some t → args[j]? = some v → Value.okWide Try.prog W .any base t v := hval0
  have hsz : (DataW.weightsEach Try.prog (Try.f6.params.toList ++ Rows.indexMoreSpec.plain.varTypes Try.prog) (ds ++ gs)).all (· ≤ reachBytes) = true := hsz0
  have hW' := hW
  obtain ⟨p, q, hA0, hV, rfl, hfz, hnd⟩ := hW
  have hA : DataW.TrodAll enc Try.prog W 0 (fun _ => true) true Try.f6.params.toList args.toList ds p := hA0
  rw [Try.params6] at hA hval hsz
  obtain ⟨v0, vs0, d0, ds0, p0, q0, hargs, rfl, rfl, h0, r0⟩ := trodAll_cons hA
  obtain ⟨v1, vs1, d1, ds1, p1, q1, rfl, rfl, rfl, h1, r1⟩ := trodAll_cons r0
  obtain ⟨v2, vs2, d2, ds2, p2, q2, rfl, rfl, rfl, h2, r2⟩ := trodAll_cons r1
  obtain ⟨rfl, rfl, rfl⟩ := trodAll_nil r2
  obtain rfl : args = #[v0, v1, v2] := by cases args; simp_all
  obtain ⟨rfl, rfl⟩ := trodVars_none hV
  obtain ⟨a0, len0, cap0, rfl⟩ := okWide_slice Try.underlying22 (hval 0 22 v0 rfl rfl)
  have k0 := h0
  have lt0 : ∀ x ∈ p0, x.block < W.heap.size := by obtain ⟨m, hm⟩ := k0; exact DataW.trod_lt m _ _ _ hm
  obtain ⟨es0, hl0, hc0, hm0, hz0, rd0, hw0⟩ := open_ents_of k0 (fun n hn => by simpa using List.all_eq_true.1 hsz n (DataW.weights_mem_each (j := 0) rfl rfl n hn))
  obtain ⟨a1, len1, cap1, rfl⟩ := okWide_slice Try.underlying31 (hval 1 31 v1 rfl rfl)
  have k1 := h1
  have lt1 : ∀ x ∈ p1, x.block < W.heap.size := by obtain ⟨m, hm⟩ := k1; exact DataW.trod_lt m _ _ _ hm
  obtain ⟨es1, hl1, hc1, hm1, rd1, hw1⟩ := open_attrs_w Try.underlying31 Try.underlying49 (by kernel_rfl) ⟨rfl, rfl, by kernel_rfl⟩ ⟨rfl, rfl, by kernel_rfl⟩ Try.underlying9 Try.underlying45 ⟨rfl, rfl, by kernel_rfl⟩ ⟨rfl, rfl, by kernel_rfl⟩ ⟨rfl, rfl, by kernel_rfl⟩ Try.underlying3 Try.underlying3 Try.underlying9 k1
  obtain ⟨a2, rfl, rfl, rfl, w2⟩ := open_int Try.underlying3 (hval 2 3 v2 rfl rfl) h2
  clear hA0 hval0
  refine (walk_IndexMore W a0 es0 len0 cap0 hl0 hc0 hm0 hz0 rd0 hw0 (kb_ents_of k0 es0 hl0 rd0) a1 es1 len1 cap1 hl1 hc1 hm1 rd1 hw1 a2 w2).mono fun e W' ⟨he, bel⟩ => ?_
  subst he
  exact ⟨_, rfl, _, _, _, [], _, [], hW', trodAll_mk1 (shut_bool Try.underlying4 _), (trodAll_cons_mk (Below.trod laidOut (by kernel_rfl) (of_decide_eq_true (by kernel_rfl)) k0 bel lt0) (trodAll_cons_mk (Below.trod laidOut (by kernel_rfl) (of_decide_eq_true (by kernel_rfl)) k1 bel lt1) (trodAll_cons_mk (shut_int Try.underlying3 w2) trodAll_mk0))), rfl, bel.frame _, fun h => by cases h⟩
theorem over : Rows.indexMoreRow.holds Try.pinned (OpenSpec.ofChange Rows.indexMoreSpec) :=
  OpenClaim.holds_of_wide 6 Try.f6 rfl rfl rfl rfl rfl rfl rfl ⟨rfl, rfl, rfl, rfl, rfl⟩ rfl rfl rfl rfl rfl (by kernel_rfl) Try.func6 (by kernel_rfl)
    (of_decide_eq_true (by kernel_rfl)) (by unfold Func.isWrapper; first | (rw [if_pos (by decide +kernel)]; kernel_rfl) | (rw [if_neg (by decide +kernel)]; exact ⟨rfl, rfl⟩))
    (fun os started H enc _ => lifted os started H enc)
end indexMore
/-- THE STATEMENT. -/
theorem indexMore_holds : Rows.IndexMoreSaid := indexMore.over
#print axioms indexMore_holds
end Go.Proofs.Ytnfigjggjmncdaa
