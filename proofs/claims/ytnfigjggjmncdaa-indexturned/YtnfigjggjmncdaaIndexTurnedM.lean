/-
  Entries in the other order are met in the other order, and there are as many predicates: for every row of entries and every row of attributes the call of the law answers true, and all arguments read behind it as they read before. No condition.
-/
import Derived.Deep.LoopGhost
import Derived.WalkMore
import Derived.Test.YtnfigjggjmncdaaI6
namespace Go.Proofs.Ytnfigjggjmncdaa
open Go.RowKit Go.ChangeShapes Go.WideShapes Go.ChangeAt Go.Sort Spans Tb
set_option maxRecDepth 100000 in
set_option maxHeartbeats 8000000 in
theorem walk_IndexTurned (w : World) (A : Option Addr) (es : List Ex) (n c : Nat) (hn : es.length = n) (hnc : n ≤ c) (hcm : c ≤ maxLen) (hnz : n ≤ 3600000000000) (hr : RdEn w A es) (hbx : EBx es) (hkb : ∀ x ∈ es, KB x.f) (B : Option Addr) (ev : List Ev.At) (m d : Nat) (hes : ev.length = m) (hec : m ≤ d) (hem : d ≤ maxLen) (hre : RdA w B ev) (hle : ∀ a ∈ ev, a.n.length ≤ maxLen ∧ a.t.length ≤ maxLen ∧ (Lit.int .i64 a.i).wf = true) :
    Calls Try.prog 7 #[.slice A n c, .slice B m d] w fun e w' => e = .returned (.bool true) ∧ Below w.heap.size w w' := by
  have HN := Lib.hid hn
  have HNC := Lib.hid hnc
  have HR := Lib.hid hr
  have HBX := Lib.hid hbx
  have HKB := Lib.hid hkb
  have HE := Lib.hid hes
  have HRE := Lib.hid hre
  have HXL : Hid (∀ x ∈ es, x.f.length = x.n) := fun x hx => (hr.2 x hx).1
  have HEB : Hid (∀ a ∈ ev, a.n.length ≤ maxLen ∧ a.t.length ≤ maxLen) := fun a ha => ⟨(hle a ha).1, (hle a ha).2.1⟩
  have HMM : Hid (m ≤ maxLen) := Nat.le_trans hec hem
  have HMD := Lib.hid hec
  have HCM := Lib.hid hcm
  clear hn hnc hcm hr hbx hkb hes hec hem hre hle
  go_enter Try.func7, Try.ntmps7
  go_wp2_with fail
  refine (ixsmall_at _).mono ?_
  rintro e w1 ⟨rfl, hb⟩
  have HB := Lib.hid hb
  clear hb
  go_wp2_with fail
  obtain ⟨q, hq⟩ : ∃ q, fewE es = q := ⟨_, rfl⟩
  have HQ := Lib.hid hq
  clear hq
  refine (tfew_at A es n c HN.out (by omega) HBX.out _ (HR.out.below HB.out) q HQ.out).mono ?_
  rintro e w2 ⟨rfl, hb⟩
  replace HB := Lib.hid (below_next HB.out (by have := HB.out.size; omega) hb)
  clear hb
  go_wp2_with fail
  refine (efew_at B ev m d HE.out HMM.out HEB.out _ (HRE.out.below HB.out)).mono ?_
  rintro e w2 ⟨rfl, rfl⟩
  cases q with
  | false =>
    go_wp2_with fail
    go_ret
    exact ⟨rfl, HB.out⟩
  | true =>
    have HF := Lib.hid (few_x HQ.out HBX.out HKB.out)
    have HFB := Lib.hid (few_b HQ.out HBX.out)
    have HFT := Lib.hid (few_t HQ.out HXL.out)
    have hn80 : n ≤ 80 := (by have := few_n HQ.out; rw [HN.out] at this; exact this)
    clear HQ HKB
    by_cases hev : Ev.Few ev
    · rw [show decide (Ev.Few ev) = true from decide_eq_true hev]
      clear hev
      go_wp2_with fail
      refine (eright_at B ev m d HE.out HMM.out HEB.out _ (HRE.out.below HB.out)).mono ?_
      rintro e w3 ⟨rfl, hg⟩
      have hb := hg.below
      clear hg
      replace HB := Lib.hid (below_next HB.out (by have := HB.out.size; omega) hb)
      clear hb
      by_cases hri : Ev.Right ev
      · rw [show decide (Ev.Right ev) = true from decide_eq_true hri]
        clear hri
        have HO0 := Lib.hid (OwnK.none_ (L := layE) w3 w.heap.size)
        go_wp2_with fail
        go_loopg [8, 9] n (fun gg s8 s9 wr => ∃ (kk dk : Nat) (z : Int) (Bk : Option Addr), kk ≤ n ∧ n - kk ≤ gg ∧ s9 = .int .i64 z ∧ Hid (z = (n : Int) - 1 - (kk : Int)) ∧ s8 = .slice Bk kk dk ∧ kk ≤ dk ∧ Hid (OwnK layE wr w.heap.size (.slice Bk kk dk) (es.reverse.take kk)) ∧ Hid (Below w.heap.size w wr))
        case atStart => exact ⟨0, 0, _, none, Nat.zero_le _, by omega, rfl, by show _ = _; omega, rfl, Nat.le_refl _, HO0, HB⟩
        case round =>
          clear HO0 HB
          obtain ⟨kk, dk, z, Bk, hk, hgg, rfl, HZ, rfl, hkd, HO, HB⟩ := hrel
          by_cases hlt : kk < n
          · obtain ⟨j, hj⟩ : ∃ j : Nat, j + 1 + kk = n := ⟨n - 1 - kk, by omega⟩
            obtain rfl : z = (j : Int) := by have := HZ.out; omega
            have hj' : j < es.length := by rw [HN.out]; omega
            have hrk : kk < es.reverse.length := by rw [List.length_reverse, HN.out]; exact hlt
            have hre1 : es.reverse[kk] = es[j] := (by rw [List.getElem_reverse]; congr 1; rw [HN.out]; omega)
            obtain ⟨g5, off, rfl, hg, c0, c1, c2, hf⟩ := RdEn.at3 (HR.out.below HB.out) hj'
            have HT : Hid (es.reverse.take (kk + 1) = es.reverse.take kk ++ [es[j]]) := (by show _ = _; rw [List.take_succ_eq_append_getElem hrk, hre1])
            obtain ⟨x, hx⟩ : ∃ x, es[j] = x := ⟨_, rfl⟩
            rw [hx] at c0 c1 c2 HT
            clear hx hf hre1
            obtain ⟨xi, xr, xA, xn, xc, xf⟩ := x
            dsimp only at c0 c1 c2
            have w5 : (j : Int) < (n : Int) := by omega
            have hlk : (es.reverse.take kk).length = kk := (by rw [List.length_take]; omega)
            have hbx : Below wr.heap.size wr (wr.alloc (.cells #[.int .i64 xi, .int .i64 xr, .slice xA xn xc] 40)) := (gr1 wr _).below
            have hrx := rdk_one layE wr ⟨xi, xr, xA, xn, xc, xf⟩ 40 #[.int .i64 xi, .int .i64 xr, .slice xA xn xc] rfl
            have ho3 := OwnK.below HO.out hbx
            have hb3 := below_next HB.out (Nat.le_refl _) hbx
            have hs3 := hb3.size
            go_wp2_with (at_builtin; refine wpList_append_k layE (by rfl) (.tmp 39) (.tmp 44) 22 underE rfl w.heap.size _ (es.reverse.take kk) (by rfl) ho3 _ [⟨xi, xr, xA, xn, xc, xf⟩] 1 1 (by rfl) hrx rfl (by rw [maxLen_num, hlk]; omega) (by show (_ + 1) * 40 ≤ _; rw [hlk]; omega) hs3 ?_; intro v2 y2 o2 b2 _ _; rw [← HT.out] at o2; have hl2 : (es.reverse.take (kk + 1)).length = kk + 1 := (by rw [HT.out, List.length_append, hlk]; rfl); obtain ⟨B2, d2, hv2, hd2, _⟩ := OwnK.form o2 hl2; subst hv2; have HB4 := Lib.hid (b2 w hb3); have HO4 := Lib.hid o2; clear b2 o2 hl2 hb3 ho3 hrx hbx hs3 hlk c0 c1 c2 hg)
            go_roundg (n - (kk + 1))
            case measure => omega
            case rel => exact ⟨kk + 1, d2, _, B2, by omega, Nat.le_refl _, rfl, by show _ = _; omega, rfl, hd2, HO4, HB4⟩
          · obtain rfl : kk = n := by omega
            obtain rfl : z = -1 := by have := HZ.out; omega
            clear HZ
            have hrl : es.reverse.length = kk := by rw [List.length_reverse, HN.out]
            have ho := HO.out
            rw [List.take_of_length_le (by rw [hrl]; exact Nat.le_refl _)] at ho
            obtain ⟨_, _, e5, _, hrd⟩ := OwnK.rd ho
            injection e5 with e5 e6 e7
            rw [← e5] at hrd
            clear e5 e6 e7 ho HO
            have HRB : Hid (RdEn wr Bk es.reverse) := ⟨hrd, fun x hx => (HR.out.2 x (List.mem_reverse.1 hx)).below HB.out⟩
            have HRN := Lib.hid hrl
            have HFR : Hid (XFew es.reverse) := fun x hx => HF.out x (List.mem_reverse.1 hx)
            have HXR : Hid (∀ x ∈ es.reverse, x.f.length = x.n) := fun x hx => HXL.out x (List.mem_reverse.1 hx)
            have HTR : Hid ((fls es.reverse).flatten.length ≤ 1000000) := (by show _ ≤ _; have := fls_all (es := es.reverse) (R := 1000) (fun x hx => (by rw [HXR.out x hx]; exact (HFR.out x hx).1)); rw [HRN.out] at this; omega)
            have HREV : Hid (metIds es.reverse ev = (metIds es ev).reverse) := (by show _ = _; unfold metIds; rw [List.filter_reverse, List.map_reverse])
            have HSZ : Hid ((Ix.uq (fls es.reverse).flatten).length = (Ix.uq (fls es).flatten).length) := Ix.uq_eq fun p => (by unfold fls; simp only [List.mem_flatten, List.mem_map, List.mem_reverse])
            clear hrd hrl
            obtain ⟨es2, hes2⟩ : ∃ es2, es.reverse = es2 := ⟨_, rfl⟩
            rw [hes2] at HRB HRN HFR HXR HTR HREV HSZ
            clear hes2
            go_wp2_with fail
            refine (build_at A es kk c HN.out (by omega) HF.out _ (HR.out.below HB.out)).mono ?_
            rintro e w3 ⟨g1, rfl, hix, hb⟩
            replace HRB := Lib.hid (HRB.out.below hb)
            replace HB := Lib.hid (below_next HB.out (by have := HB.out.size; omega) hb)
            clear hb
            have HI1 := Lib.hid hix
            clear hix
            go_wp2_with fail
            refine (build_at Bk es2 kk dk HRN.out (by omega) HFR.out _ HRB.out).mono ?_
            rintro e w3 ⟨g2, rfl, hix, hb⟩
            replace HRB := Lib.hid (HRB.out.below hb)
            replace HI1 := Lib.hid (HI1.out.below hb)
            replace HB := Lib.hid (below_next HB.out (by have := HB.out.size; omega) hb)
            clear hb
            have HI2 := Lib.hid hix
            clear hix
            clear HRB
            go_wp2_with fail
            refine (imeet_at g1 es kk HN.out (by omega) HFT.out HXL.out B ev m d HE.out HMM.out HEB.out _ HI1.out (HRE.out.below HB.out)).mono ?_
            rintro e w4 ⟨B1, m1, d1, rfl, hl, hc, ho, hb⟩
            have HS1 := Lib.hid (HB.out.size)
            replace HI1 := Lib.hid (HI1.out.below hb)
            replace HI2 := Lib.hid (HI2.out.below hb)
            replace HB := Lib.hid (below_next HB.out (by have := HB.out.size; omega) hb)
            have HG1 := Lib.hid ho
            have HL1 := Lib.hid hl
            have HC1 := Lib.hid hc
            clear hb ho hl hc
            obtain ⟨_, _, e5, _, hrd⟩ := OwnZ.rd HG1.out
            injection e5 with e5 e6 e7
            rw [← e5] at hrd
            clear e5 e6 e7
            have HR1 := Lib.hid hrd
            clear HG1 HS1 hrd
            go_wp2_with fail
            refine (imeet_at g2 es2 kk HRN.out (by omega) HTR.out HXR.out B ev m d HE.out HMM.out HEB.out _ HI2.out (HRE.out.below HB.out)).mono ?_
            rintro e w4 ⟨B2, m2, d2, rfl, hl, hc, ho, hb⟩
            have HS2 := Lib.hid (HB.out.size)
            replace HI1 := Lib.hid (HI1.out.below hb)
            replace HI2 := Lib.hid (HI2.out.below hb)
            replace HR1 := Lib.hid (HR1.out.below hb)
            replace HB := Lib.hid (below_next HB.out (by have := HB.out.size; omega) hb)
            have HG2 := Lib.hid ho
            have HL2 := Lib.hid hl
            have HC2 := Lib.hid hc
            clear hb ho hl hc
            obtain ⟨_, _, e5, _, hrd⟩ := OwnZ.rd HG2.out
            injection e5 with e5 e6 e7
            rw [← e5] at hrd
            clear e5 e6 e7
            have HR2 := Lib.hid hrd
            clear HG2 HS2 hrd
            obtain rfl : m1 = m2 := (by rw [← HL1.out, ← HL2.out, HREV.out, List.length_reverse])
            have hm1 : m1 ≤ 80 := (by rw [← HL1.out]; have := met_len es ev; rw [HN.out] at this; omega)
            go_wp2_with fail
            go_loopg [14] m1 (fun gg s14 wr => ∃ k : Nat, k ≤ m1 ∧ m1 - k ≤ gg ∧ s14 = .int .i64 (k : Int) ∧ Hid (Below w4.heap.size w4 wr))
            case atStart => exact ⟨0, Nat.zero_le _, by omega, rfl, Below.refl _ _⟩
            case round =>
              obtain ⟨k, hk2, hgg2, rfl, HW⟩ := hrel
              by_cases hlt2 : k < m1
              · obtain ⟨j, hj⟩ : ∃ j : Nat, j + 1 + k = m1 := ⟨m1 - 1 - k, by omega⟩
                have h1 : k < (metIds es ev).length := by rw [HL1.out]; exact hlt2
                have h2 : j < (metIds es2 ev).length := by rw [HL2.out]; omega
                have h3 : (metIds es2 ev)[j] = (metIds es ev)[k] := (by rw [List.getElem_of_eq HREV.out h2, List.getElem_reverse]; congr 1; rw [HL1.out]; omega)
                obtain ⟨g6, off6, rfl, hg6, d0⟩ := RdI.at1 (HR1.out.below HW.out) h1
                obtain ⟨g7, off7, rfl, hg7, d1⟩ := RdI.at1 (HR2.out.below HW.out) h2
                rw [h3] at d1
                generalize (metIds es ev)[k] = v at *
                clear h1 h2 h3
                have w5 : (k : Int) < (m1 : Int) := by omega
                have hw1 : IntKind.i64.wrap ((m1 : Int) - 1) = (m1 : Int) - 1 := (by rw [IntKind.wrap_i64]; omega)
                have hw2 : IntKind.i64.wrap ((m1 : Int) - 1 - (k : Int)) = (j : Int) := (by rw [IntKind.wrap_i64]; omega)
                have w6 : (j : Int) < (m1 : Int) := by omega
                go_wp2_with fail
                have hS0 : wr.drew.cell? ⟨g6, off6 + k, none⟩ = some (.int .i64 v) ∧ wr.drew.cell? ⟨g7, off7 + j, none⟩ = some (.int .i64 v) := ⟨d0, d1⟩
                refine wp_region_held_drew (S := fun w' => w'.cell? ⟨g6, off6 + k, none⟩ = some (.int .i64 v) ∧ w'.cell? ⟨g7, off7 + j, none⟩ = some (.int .i64 v)) (by kernel_rfl) hS0 (fun _ => ?_)
                refine Jz 0 hS0 ?_
                refine Jz 1 hS0 ?_
                refine Jz 2 hS0 ?_
                refine Jz 3 hS0 ?_
                refine Jz 4 hS0 ?_
                refine Jz 5 hS0 ?_
                refine Jz 6 hS0 ?_
                refine Jz 7 hS0 ?_
                refine Jz 8 hS0 ?_
                refine Jz 9 hS0 ?_
                refine Jz 10 hS0 ?_
                refine Jz 11 hS0 ?_
                refine Jz 12 hS0 ?_
                refine Jd ?_
                clear hS0 d0 d1 hg6 hg7 hw1 hw2
                have HW3 := Lib.hid HW.out.drew
                generalize wr.drew = w7 at *
                go_wp2_with fail
                go_roundg (m1 - (k + 1))
                case measure => omega
                case rel => exact ⟨k + 1, by omega, Nat.le_refl _, by go_num, HW3⟩
              · obtain rfl : k = m1 := by omega
                have HI1w := Lib.hid (HI1.out.below HW.out)
                have HI2w := Lib.hid (HI2.out.below HW.out)
                have HB2 := Lib.hid (below_next HB.out (by have := HB.out.size; omega) HW.out)
                obtain ⟨z, hz⟩ : ∃ z, (Ix.uq (fls es).flatten).length = z := ⟨_, rfl⟩
                have HZ := Lib.hid hz
                clear hz
                go_wp2_with fail
                refine (size_at g1 es _ HI1w.out z HZ.out).mono ?_
                rintro e w8 ⟨rfl, rfl⟩
                go_wp2_with fail
                refine (size_at g2 es2 _ HI2w.out z (HSZ.out.trans HZ.out)).mono ?_
                rintro e w8 ⟨rfl, rfl⟩
                go_wp2_with fail
                go_ret
                exact ⟨rfl, HB2.out⟩
      · rw [show decide (Ev.Right ev) = false from decide_eq_false hri]
        go_wp2_with fail
        go_ret
        exact ⟨rfl, HB.out⟩
    · rw [show decide (Ev.Few ev) = false from decide_eq_false hev]
      go_wp2_with fail
      go_ret
      exact ⟨rfl, HB.out⟩

/-! ### The row's step. -/
namespace indexTurned
theorem own : ownKnob Try.prog.godebug = none := by kernel_rfl
theorem laidOut : laidOutB Try.prog = true := by kernel_rfl
set_option linter.unusedVariables false in
set_option maxRecDepth 100000 in
theorem lifted (os : Os) (started : os.Started) (H : Type) (enc : TypeId × Value → H) :
    ReturnsInHanded {} Try.checked os 7 .any (Rows.indexTurnedSpec.pre6 enc Try.prog Try.f7 Rows.indexTurnedRow.domain false) (Rows.indexTurnedSpec.post enc Try.prog Try.f7 false true false false) := by
  refine returnsInHanded_of_change_sized (C := Try.checked) own started (by kernel_rfl) Try.func7
    (ChangeSpec.witness6 (enc := enc) (C := Try.checked) false ⟨#[], #[.slice none 0 0, .slice none 0 0], []⟩ 8 (by kernel_rfl) (by kernel_rfl) (by kernel_rfl) (by kernel_rfl)) ?_
  intro W base args ds gs before hval0 hW hcnd hsz0 _
  have hval : ∀ (j : Nat) t v, Try.f7.params[j]? = some t → args[j]? = some v → Value.okWide Try.prog W .any base t v := hval0
  have hsz : (DataW.weightsEach Try.prog (Try.f7.params.toList ++ Rows.indexTurnedSpec.plain.varTypes Try.prog) (ds ++ gs)).all (· ≤ reachBytes) = true := hsz0
  have hW' := hW
  obtain ⟨p, q, hA0, hV, rfl, hfz, hnd⟩ := hW
  have hA : DataW.TrodAll enc Try.prog W 0 (fun _ => true) true Try.f7.params.toList args.toList ds p := hA0
  rw [Try.params7] at hA hval hsz
  obtain ⟨v0, vs0, d0, ds0, p0, q0, hargs, rfl, rfl, h0, r0⟩ := trodAll_cons hA
  obtain ⟨v1, vs1, d1, ds1, p1, q1, rfl, rfl, rfl, h1, r1⟩ := trodAll_cons r0
  obtain ⟨rfl, rfl, rfl⟩ := trodAll_nil r1
  obtain rfl : args = #[v0, v1] := by cases args; simp_all
  obtain ⟨rfl, rfl⟩ := trodVars_none hV
  obtain ⟨a0, len0, cap0, rfl⟩ := okWide_slice Try.underlying22 (hval 0 22 v0 rfl rfl)
  have k0 := h0
  have lt0 : ∀ x ∈ p0, x.block < W.heap.size := by obtain ⟨m, hm⟩ := k0; exact DataW.trod_lt m _ _ _ hm
  obtain ⟨es0, hl0, hc0, hm0, hz0, rd0, hw0⟩ := open_ents_of k0 (fun n hn => by simpa using List.all_eq_true.1 hsz n (DataW.weights_mem_each (j := 0) rfl rfl n hn))
  obtain ⟨a1, len1, cap1, rfl⟩ := okWide_slice Try.underlying31 (hval 1 31 v1 rfl rfl)
  have k1 := h1
  have lt1 : ∀ x ∈ p1, x.block < W.heap.size := by obtain ⟨m, hm⟩ := k1; exact DataW.trod_lt m _ _ _ hm
  obtain ⟨es1, hl1, hc1, hm1, rd1, hw1⟩ := open_attrs_w Try.underlying31 Try.underlying49 (by kernel_rfl) ⟨rfl, rfl, by kernel_rfl⟩ ⟨rfl, rfl, by kernel_rfl⟩ Try.underlying9 Try.underlying45 ⟨rfl, rfl, by kernel_rfl⟩ ⟨rfl, rfl, by kernel_rfl⟩ ⟨rfl, rfl, by kernel_rfl⟩ Try.underlying3 Try.underlying3 Try.underlying9 k1
  clear hA0 hval0
  refine (walk_IndexTurned W a0 es0 len0 cap0 hl0 hc0 hm0 hz0 rd0 hw0 (kb_ents_of k0 es0 hl0 rd0) a1 es1 len1 cap1 hl1 hc1 hm1 rd1 hw1).mono fun e W' ⟨he, bel⟩ => ?_
  subst he
  exact ⟨_, rfl, _, _, _, [], _, [], hW', trodAll_mk1 (shut_bool Try.underlying4 _), (trodAll_cons_mk (Below.trod laidOut (by kernel_rfl) (of_decide_eq_true (by kernel_rfl)) k0 bel lt0) (trodAll_cons_mk (Below.trod laidOut (by kernel_rfl) (of_decide_eq_true (by kernel_rfl)) k1 bel lt1) trodAll_mk0)), rfl, bel.frame _, fun h => by cases h⟩
theorem over : Rows.indexTurnedRow.holds Try.pinned (OpenSpec.ofChange Rows.indexTurnedSpec) :=
  OpenClaim.holds_of_wide 7 Try.f7 rfl rfl rfl rfl rfl rfl rfl ⟨rfl, rfl, rfl, rfl, rfl⟩ rfl rfl rfl rfl rfl (by kernel_rfl) Try.func7 (by kernel_rfl)
    (of_decide_eq_true (by kernel_rfl)) (by unfold Func.isWrapper; first | (rw [if_pos (by decide +kernel)]; kernel_rfl) | (rw [if_neg (by decide +kernel)]; exact ⟨rfl, rfl⟩))
    (fun os started H enc _ => lifted os started H enc)
end indexTurned
/-- THE STATEMENT. -/
theorem indexTurned_holds : Rows.IndexTurnedSaid := indexTurned.over
#print axioms indexTurned_holds
end Go.Proofs.Ytnfigjggjmncdaa
