/-
  An index over entries and others tells what two tell: for every row of entries, every place and every row of attributes the call of the law answers true, and all arguments read behind it as they read before. No condition.
-/
import Derived.Deep.LoopGhost
import Derived.WalkMore
import Derived.Test.YtnfigjggjmncdaaI6
namespace Go.Proofs.Ytnfigjggjmncdaa
open Go.RowKit Go.ChangeShapes Go.WideShapes Go.ChangeAt Go.Sort Spans Tb
set_option maxRecDepth 100000 in
set_option maxHeartbeats 8000000 in
theorem walk_IndexParts (w : World) (A : Option Addr) (es : List Ex) (n c : Nat) (hn : es.length = n) (hnc : n ≤ c) (hcm : c ≤ maxLen) (hnz : n ≤ 3600000000000) (hr : RdEn w A es) (hbx : EBx es) (hkb : ∀ x ∈ es, KB x.f) (kz : Int) (wk : (Lit.int .i64 kz).wf = true) (B : Option Addr) (ev : List Ev.At) (m d : Nat) (hes : ev.length = m) (hec : m ≤ d) (hem : d ≤ maxLen) (hre : RdA w B ev) (hle : ∀ a ∈ ev, a.n.length ≤ maxLen ∧ a.t.length ≤ maxLen ∧ (Lit.int .i64 a.i).wf = true) :
    Calls Try.prog 5 #[.slice A n c, .int .i64 kz, .slice B m d] w fun e w' => e = .returned (.bool true) ∧ Below w.heap.size w w' := by
  have HN := Lib.hid hn
  have HNC := Lib.hid hnc
  have HR := Lib.hid hr
  have HBX := Lib.hid hbx
  have HKB := Lib.hid hkb
  have HE := Lib.hid hes
  have HRE := Lib.hid hre
  have HXL : Hid (∀ x ∈ es, x.f.length = x.n) := fun x hx => (hr.2 x hx).1
  have HEB : Hid (∀ a ∈ ev, a.n.length ≤ maxLen ∧ a.t.length ≤ maxLen) := fun a ha => ⟨(hle a ha).1, (hle a ha).2.1⟩
  have HMM : Hid (m ≤ maxLen) := Nat.le_trans hec hem
  have HMD := Lib.hid hec
  have HCM := Lib.hid hcm
  clear hn hnc hcm hr hbx hkb hes hec hem hre hle
  go_enter Try.func5, Try.ntmps5
  go_wp2_with fail
  refine (ixsmall_at _).mono ?_
  rintro e w1 ⟨rfl, hb⟩
  have HB := Lib.hid hb
  clear hb
  go_wp2_with fail
  obtain ⟨q, hq⟩ : ∃ q, fewE es = q := ⟨_, rfl⟩
  have HQ := Lib.hid hq
  clear hq
  refine (tfew_at A es n c HN.out (by omega) HBX.out _ (HR.out.below HB.out) q HQ.out).mono ?_
  rintro e w2 ⟨rfl, hb⟩
  replace HB := Lib.hid (below_next HB.out (by have := HB.out.size; omega) hb)
  clear hb
  go_wp2_with fail
  refine (efew_at B ev m d HE.out HMM.out HEB.out _ (HRE.out.below HB.out)).mono ?_
  rintro e w2 ⟨rfl, rfl⟩
  cases q with
  | false =>
    go_wp2_with fail
    go_ret
    exact ⟨rfl, HB.out⟩
  | true =>
    have HF := Lib.hid (few_x HQ.out HBX.out HKB.out)
    have HFB := Lib.hid (few_b HQ.out HBX.out)
    have HFT := Lib.hid (few_t HQ.out HXL.out)
    have hn80 : n ≤ 80 := (by have := few_n HQ.out; rw [HN.out] at this; exact this)
    clear HQ HKB
    by_cases hev : Ev.Few ev
    · rw [show decide (Ev.Few ev) = true from decide_eq_true hev]
      clear hev
      go_wp2_with fail
      refine (eright_at B ev m d HE.out HMM.out HEB.out _ (HRE.out.below HB.out)).mono ?_
      rintro e w3 ⟨rfl, hg⟩
      have hb := hg.below
      clear hg
      replace HB := Lib.hid (below_next HB.out (by have := HB.out.size; omega) hb)
      clear hb
      by_cases hri : Ev.Right ev
      · rw [show decide (Ev.Right ev) = true from decide_eq_true hri]
        clear hri
        by_cases hneg : kz < 0
        · have v1 : decide (kz < 0) = true := decide_eq_true hneg
          go_wp2_with fail
          go_ret
          exact ⟨rfl, HB.out⟩
        · obtain ⟨k, rfl⟩ : ∃ k : Nat, kz = (k : Int) := ⟨kz.toNat, by omega⟩
          clear hneg wk
          have v1 : decide ((k : Int) < 0) = false := decide_eq_false (by omega)
          by_cases hgt : n < k
          · have v2 : decide (n < k) = true := decide_eq_true hgt
            go_wp2_with fail
            go_ret
            exact ⟨rfl, HB.out⟩
          · have v2 : decide (n < k) = false := decide_eq_false hgt
            have hkn : k ≤ n := by omega
            have hhd := run_headE A n c k hkn HNC.out
            obtain ⟨A2, hct, hrd2⟩ := run_cutE HR.out.1 HN.out hkn HNC.out
            obtain ⟨e1, he1⟩ : ∃ e1, es.take k = e1 := ⟨_, rfl⟩
            obtain ⟨e2, he2⟩ : ∃ e2, es.drop k = e2 := ⟨_, rfl⟩
            have HAP : Hid (es = e1 ++ e2) := (by show _ = _; rw [← he1, ← he2, List.take_append_drop])
            have hs1 : ∀ x ∈ e1, x ∈ es := fun x hx => (by rw [HAP.out]; exact List.mem_append_left _ hx)
            have hs2 : ∀ x ∈ e2, x ∈ es := fun x hx => (by rw [HAP.out]; exact List.mem_append_right _ hx)
            have HN1 : Hid (e1.length = k) := (by show _ = _; rw [← he1, List.length_take, HN.out]; omega)
            have HN2 : Hid (e2.length = n - k) := (by show _ = _; rw [← he2, List.length_drop, HN.out])
            have hrd1 := RdK.take HR.out.1 k
            rw [he1] at hrd1
            rw [he2] at hrd2
            have HR1 : Hid (RdEn w A e1) := ⟨hrd1, fun x hx => HR.out.2 x (hs1 x hx)⟩
            have HR2 : Hid (RdEn w A2 e2) := ⟨hrd2, fun x hx => HR.out.2 x (hs2 x hx)⟩
            have HF1 : Hid (XFew e1) := fun x hx => HF.out x (hs1 x hx)
            have HF2 : Hid (XFew e2) := fun x hx => HF.out x (hs2 x hx)
            have HX1 : Hid (∀ x ∈ e1, x.f.length = x.n) := fun x hx => HXL.out x (hs1 x hx)
            have HX2 : Hid (∀ x ∈ e2, x.f.length = x.n) := fun x hx => HXL.out x (hs2 x hx)
            have HT1 : Hid ((fls e1).flatten.length ≤ 1000000) := (by show _ ≤ _; have := HFT.out; rw [HAP.out] at this; unfold fls at *; simp only [List.map_append, List.flatten_append, List.length_append] at this; omega)
            have HT2 : Hid ((fls e2).flatten.length ≤ 1000000) := (by show _ ≤ _; have := HFT.out; rw [HAP.out] at this; unfold fls at *; simp only [List.map_append, List.flatten_append, List.length_append] at this; omega)
            clear hs1 hs2 hrd1 hrd2 he1 he2
            go_wp2_with fail
            refine (build_at A es n c HN.out (by omega) HF.out _ (HR.out.below HB.out)).mono ?_
            rintro e w3 ⟨g0, rfl, hix, hb⟩
            replace HB := Lib.hid (below_next HB.out (by have := HB.out.size; omega) hb)
            clear hb
            have HI0 := Lib.hid hix
            clear hix
            go_wp2_with fail
            refine (build_at A e1 k c HN1.out (by omega) HF1.out _ (HR1.out.below HB.out)).mono ?_
            rintro e w3 ⟨g1, rfl, hix, hb⟩
            replace HI0 := Lib.hid (HI0.out.below hb)
            replace HB := Lib.hid (below_next HB.out (by have := HB.out.size; omega) hb)
            clear hb
            have HI1 := Lib.hid hix
            clear hix
            go_wp2_with fail
            refine (build_at A2 e2 (n - k) (c - k) HN2.out (by omega) HF2.out _ (HR2.out.below HB.out)).mono ?_
            rintro e w3 ⟨g2, rfl, hix, hb⟩
            replace HI0 := Lib.hid (HI0.out.below hb)
            replace HI1 := Lib.hid (HI1.out.below hb)
            replace HB := Lib.hid (below_next HB.out (by have := HB.out.size; omega) hb)
            clear hb
            have HI2 := Lib.hid hix
            clear hix
            go_wp2_with fail
            refine (imeet_at g0 es n HN.out (by omega) HFT.out HXL.out B ev m d HE.out HMM.out HEB.out _ HI0.out (HRE.out.below HB.out)).mono ?_
            rintro e w4 ⟨B0, m0, d0, rfl, hl, hc, ho, hb⟩
            have HS0 := Lib.hid (HB.out.size)
            replace HI0 := Lib.hid (HI0.out.below hb)
            replace HI1 := Lib.hid (HI1.out.below hb)
            replace HI2 := Lib.hid (HI2.out.below hb)
            replace HB := Lib.hid (below_next HB.out (by have := HB.out.size; omega) hb)
            have HG0 := Lib.hid ho
            have HL0 := Lib.hid hl
            have HC0 := Lib.hid hc
            clear hb ho hl hc
            obtain ⟨_, _, e5, _, hrd⟩ := OwnZ.rd HG0.out
            injection e5 with e5 e6 e7
            rw [← e5] at hrd
            clear e5 e6 e7
            have HRR0 := Lib.hid hrd
            clear HG0 HS0 hrd
            obtain ⟨wP, rfl⟩ : ∃ x : World, x = w4 := ⟨_, rfl⟩
            have HP : Hid (Below wP.heap.size wP (wP.alloc (.cells #[] 3))) := (gr1 wP _).below
            have HO : Hid (OwnZ layI (wP.alloc (.cells #[] 3)) wP.heap.size (.slice (some ⟨wP.heap.size, 0, none⟩) 0 0) []) := OwnZ.empty (L := layI) wP wP.heap.size (Nat.le_refl _)
            go_wp2_with fail
            generalize wP.alloc (.cells #[] 3) = w5 at *
            refine (imeet_at g1 e1 k HN1.out (by omega) HT1.out HX1.out B ev m d HE.out HMM.out HEB.out _ (HI1.out.below HP.out) (HRE.out.below (below_next HB.out (by have := HB.out.size; omega) HP.out))).mono ?_
            rintro e w4 ⟨B1, m1, d1, rfl, hl1, hc, ho, hb⟩
            replace HO := Lib.hid (OwnZ.below HO.out hb)
            replace HP := Lib.hid (below_next HP.out (Nat.le_refl _) hb)
            obtain ⟨_, _, e5, _, hrd⟩ := OwnZ.rd ho
            injection e5 with e5 e6 e7
            rw [← e5] at hrd
            clear e5 e6 e7 ho hb hc
            have hmk1 : m1 ≤ 80 := (by rw [← hl1]; have := met_len e1 ev; rw [HN1.out] at this; omega)
            have ho3 := HO.out
            have hs3 := HP.out.size
            go_wp2_with (at_builtin; refine wpList_append_z layI (by rfl) (.tmp 65) (.tmp 68) 32 underI rfl wP.heap.size _ [] (by rfl) ho3 B1 (metIds e1 ev) m1 d1 (by rfl) hrd hl1 (by rw [maxLen_num]; simp; omega) (by simp only [layI]; simp; omega) hs3 ?_; intro v2 w6 o2 b2 g2' _; rw [List.nil_append] at o2; obtain ⟨B5, d5, hv2, hd5, _⟩ := OwnZ.form o2 hl1; subst hv2)
            replace HO := Lib.hid o2
            replace HP := Lib.hid (b2 wP HP.out)
            have HL1 := Lib.hid hl1
            clear o2 b2 g2' ho3 hs3 hrd hl1
            refine (imeet_at g2 e2 (n - k) HN2.out (by omega) HT2.out HX2.out B ev m d HE.out HMM.out HEB.out _ (HI2.out.below HP.out) (HRE.out.below (below_next HB.out (by have := HB.out.size; omega) HP.out))).mono ?_
            rintro e w4 ⟨B2, m2, d2, rfl, hl1, hc, ho, hb⟩
            replace HO := Lib.hid (OwnZ.below HO.out hb)
            replace HP := Lib.hid (below_next HP.out (Nat.le_refl _) hb)
            obtain ⟨_, _, e5, _, hrd⟩ := OwnZ.rd ho
            injection e5 with e5 e6 e7
            rw [← e5] at hrd
            clear e5 e6 e7 ho hb hc
            have hmk2 : m2 ≤ 80 := (by rw [← hl1]; have := met_len e2 ev; rw [HN2.out] at this; omega)
            have ho3 := HO.out
            have hs3 := HP.out.size
            have hl5 := HL1.out
            go_wp2_with (at_builtin; refine wpList_append_z layI (by rfl) (.tmp 69) (.tmp 72) 32 underI rfl wP.heap.size _ (metIds e1 ev) (by rfl) ho3 B2 (metIds e2 ev) m2 d2 (by rfl) hrd hl1 (by rw [maxLen_num, hl5]; omega) (by simp only [layI]; rw [hl5]; omega) hs3 ?_; intro v2 w7 o2 b2 g2' _; have hl6 : (metIds e1 ev ++ metIds e2 ev).length = m1 + m2 := (by rw [List.length_append, hl5, hl1]); obtain ⟨B6, d6, hv2, hd6, _⟩ := OwnZ.form o2 hl6; subst hv2)
            obtain ⟨_, _, e5, _, hrd6⟩ := OwnZ.rd o2
            injection e5 with e5 e6 e7
            rw [← e5] at hrd6
            clear e5 e6 e7
            replace HP := Lib.hid (b2 wP HP.out)
            clear o2 b2 g2' ho3 hs3 hrd hl5 HO
            refine (ints_at B0 (metIds es ev) m0 d0 HL0.out B6 (metIds e1 ev ++ metIds e2 ev) (m1 + m2) d6 hl6 ⟨by rw [← HL0.out]; have := met_len es ev; rw [HN.out] at this; omega, by omega⟩ _ (HRR0.out.below HP.out) hrd6 true ⟨fun _ => (by rw [HAP.out, met_app]), fun _ => rfl⟩).mono ?_
            rintro e w8 ⟨rfl, hb⟩
            replace HP := Lib.hid (below_next HP.out (Nat.le_refl _) hb)
            clear hb hrd6 hl6
            obtain ⟨z0, hz0⟩ : ∃ z, (Ix.uq (fls es).flatten).length = z := ⟨_, rfl⟩
            obtain ⟨z1, hz1⟩ : ∃ z, (Ix.uq (fls e1).flatten).length = z := ⟨_, rfl⟩
            obtain ⟨z2, hz2⟩ : ∃ z, (Ix.uq (fls e2).flatten).length = z := ⟨_, rfl⟩
            have hle : z0 ≤ z1 + z2 := (by rw [← hz0, ← hz1, ← hz2, HAP.out]; unfold fls; rw [List.map_append, List.flatten_append]; exact Ix.uq_app _ _)
            have hb1 : z1 ≤ 1000000 := (by rw [← hz1]; exact Nat.le_trans (Ix.uq_len _) HT1.out)
            have hb2 : z2 ≤ 1000000 := (by rw [← hz2]; exact Nat.le_trans (Ix.uq_len _) HT2.out)
            have HZ0 := Lib.hid hz0
            have HZ1 := Lib.hid hz1
            have HZ2 := Lib.hid hz2
            clear hz0 hz1 hz2
            have v9 : decide (z0 ≤ z1 + z2) = true := decide_eq_true hle
            have v10 : decide ((z0 : Int) ≤ (z1 : Int) + (z2 : Int)) = true := decide_eq_true (by omega)
            go_wp2_with fail
            refine (size_at g0 es _ (HI0.out.below HP.out) z0 HZ0.out).mono ?_
            rintro e w9 ⟨rfl, rfl⟩
            go_wp2_with fail
            refine (size_at g1 e1 _ (HI1.out.below HP.out) z1 HZ1.out).mono ?_
            rintro e w9 ⟨rfl, rfl⟩
            go_wp2_with fail
            refine (size_at g2 e2 _ (HI2.out.below HP.out) z2 HZ2.out).mono ?_
            rintro e w9 ⟨rfl, rfl⟩
            go_wp2_with fail
            go_ret
            exact ⟨rfl, below_next HB.out (by have := HB.out.size; omega) HP.out⟩
      · rw [show decide (Ev.Right ev) = false from decide_eq_false hri]
        go_wp2_with fail
        go_ret
        exact ⟨rfl, HB.out⟩
    · rw [show decide (Ev.Few ev) = false from decide_eq_false hev]
      go_wp2_with fail
      go_ret
      exact ⟨rfl, HB.out⟩

/-! ### The row's step. -/
namespace indexParts
theorem own : ownKnob Try.prog.godebug = none := by kernel_rfl
theorem laidOut : laidOutB Try.prog = true := by kernel_rfl
set_option linter.unusedVariables false in
set_option maxRecDepth 100000 in
theorem lifted (os : Os) (started : os.Started) (H : Type) (enc : TypeId × Value → H) :
    ReturnsInHanded {} Try.checked os 5 .any (Rows.indexPartsSpec.pre6 enc Try.prog Try.f5 Rows.indexPartsRow.domain false) (Rows.indexPartsSpec.post enc Try.prog Try.f5 false true false false) := by
  refine returnsInHanded_of_change_sized (C := Try.checked) own started (by kernel_rfl) Try.func5
    (ChangeSpec.witness6 (enc := enc) (C := Try.checked) false ⟨#[], #[.slice none 0 0, .int .i64 0, .slice none 0 0], []⟩ 8 (by kernel_rfl) (by kernel_rfl) (by kernel_rfl) (by kernel_rfl)) ?_
  intro W base args ds gs before hval0 hW hcnd hsz0 _
  have hval : ∀ (j : Nat) t v, Try.f5.params[j]? = some t → args[j]? = some v → Value.okWide Try.prog W .any base t v := hval0
  have hsz : (DataW.weightsEach Try.prog (Try.f5.params.toList ++ Rows.indexPartsSpec.plain.varTypes Try.prog) (ds ++ gs)).all (· ≤ reachBytes) = true := hsz0
  have hW' := hW
  obtain ⟨p, q, hA0, hV, rfl, hfz, hnd⟩ := hW
  have hA : DataW.TrodAll enc Try.prog W 0 (fun _ => true) true Try.f5.params.toList args.toList ds p := hA0
  rw [Try.params5] at hA hval hsz
  obtain ⟨v0, vs0, d0, ds0, p0, q0, hargs, rfl, rfl, h0, r0⟩ := trodAll_cons hA
  obtain ⟨v1, vs1, d1, ds1, p1, q1, rfl, rfl, rfl, h1, r1⟩ := trodAll_cons r0
  obtain ⟨v2, vs2, d2, ds2, p2, q2, rfl, rfl, rfl, h2, r2⟩ := trodAll_cons r1
  obtain ⟨rfl, rfl, rfl⟩ := trodAll_nil r2
  obtain rfl : args = #[v0, v1, v2] := by cases args; simp_all
  obtain ⟨rfl, rfl⟩ := trodVars_none hV
  obtain ⟨a0, len0, cap0, rfl⟩ := okWide_slice Try.underlying22 (hval 0 22 v0 rfl rfl)
  have k0 := h0
  have lt0 : ∀ x ∈ p0, x.block < W.heap.size := by obtain ⟨m, hm⟩ := k0; exact DataW.trod_lt m _ _ _ hm
  obtain ⟨es0, hl0, hc0, hm0, hz0, rd0, hw0⟩ := open_ents_of k0 (fun n hn => by simpa using List.all_eq_true.1 hsz n (DataW.weights_mem_each (j := 0) rfl rfl n hn))
  obtain ⟨a1, rfl, rfl, rfl, w1⟩ := open_int Try.underlying3 (hval 1 3 v1 rfl rfl) h1
  obtain ⟨a2, len2, cap2, rfl⟩ := okWide_slice Try.underlying31 (hval 2 31 v2 rfl rfl)
  have k2 := h2
  have lt2 : ∀ x ∈ p2, x.block < W.heap.size := by obtain ⟨m, hm⟩ := k2; exact DataW.trod_lt m _ _ _ hm
  obtain ⟨es2, hl2, hc2, hm2, rd2, hw2⟩ := open_attrs_w Try.underlying31 Try.underlying49 (by kernel_rfl) ⟨rfl, rfl, by kernel_rfl⟩ ⟨rfl, rfl, by kernel_rfl⟩ Try.underlying9 Try.underlying45 ⟨rfl, rfl, by kernel_rfl⟩ ⟨rfl, rfl, by kernel_rfl⟩ ⟨rfl, rfl, by kernel_rfl⟩ Try.underlying3 Try.underlying3 Try.underlying9 k2
  clear hA0 hval0
  refine (walk_IndexParts W a0 es0 len0 cap0 hl0 hc0 hm0 hz0 rd0 hw0 (kb_ents_of k0 es0 hl0 rd0) a1 w1 a2 es2 len2 cap2 hl2 hc2 hm2 rd2 hw2).mono fun e W' ⟨he, bel⟩ => ?_
  subst he
  exact ⟨_, rfl, _, _, _, [], _, [], hW', trodAll_mk1 (shut_bool Try.underlying4 _), (trodAll_cons_mk (Below.trod laidOut (by kernel_rfl) (of_decide_eq_true (by kernel_rfl)) k0 bel lt0) (trodAll_cons_mk (shut_int Try.underlying3 w1) (trodAll_cons_mk (Below.trod laidOut (by kernel_rfl) (of_decide_eq_true (by kernel_rfl)) k2 bel lt2) trodAll_mk0))), rfl, bel.frame _, fun h => by cases h⟩
theorem over : Rows.indexPartsRow.holds Try.pinned (OpenSpec.ofChange Rows.indexPartsSpec) :=
  OpenClaim.holds_of_wide 5 Try.f5 rfl rfl rfl rfl rfl rfl rfl ⟨rfl, rfl, rfl, rfl, rfl⟩ rfl rfl rfl rfl rfl (by kernel_rfl) Try.func5 (by kernel_rfl)
    (of_decide_eq_true (by kernel_rfl)) (by unfold Func.isWrapper; first | (rw [if_pos (by decide +kernel)]; kernel_rfl) | (rw [if_neg (by decide +kernel)]; exact ⟨rfl, rfl⟩))
    (fun os started H enc _ => lifted os started H enc)
end indexParts
/-- THE STATEMENT. -/
theorem indexParts_holds : Rows.IndexPartsSaid := indexParts.over
#print axioms indexParts_holds
end Go.Proofs.Ytnfigjggjmncdaa
