/-
  What stands above what is told by the edges, one behind the other, and by no fewer: for every row of entries the call of the law answers true, and all arguments read behind it as they read before. No condition.
-/
import Derived.Test.YtckabmlilbkmbaaP4
namespace Go.Proofs.Ytckabmlilbkmbaa
open Go.RowKit Go.ChangeShapes Go.WideShapes Go.ChangeAt Go.Sort Spans Tb
theorem tell_next {b : Bool} {P Q : Prop} {z : Bool} (h : TellB b P) (hz : TellB z Q) : TellB (b || z) (P ∨ Q) := by
  unfold TellB at *; rw [Bool.or_eq_true, h, hz]
set_option maxRecDepth 100000 in
set_option maxHeartbeats 8000000 in
theorem walk_PosetEdges (w : World) (A : Option Addr) (es : List Ex) (n c : Nat) (hn : es.length = n) (_ : n ≤ c) (_ : c ≤ maxLen) (hz : n ≤ 3600000000000) (hr : RdEn w A es) (hb : EBx es) :
    Calls Try.prog 5 #[.slice A n c] w fun e w' => e = .returned (.bool true) ∧ Below w.heap.size w w' := by
  have HN := Lib.hid hn
  have HR := Lib.hid hr
  have HBX := Lib.hid hb
  obtain ⟨q, hq⟩ : ∃ q, fewE es = q := ⟨_, rfl⟩
  have HQ := Lib.hid hq
  clear hn hr hb hq
  go_enter Try.func5, Try.ntmps5
  go_wp2_with fail
  refine (small_at w).mono ?_
  rintro e w1 ⟨rfl, hb⟩
  have BB := Lib.hid hb
  clear hb
  go_wp2_with fail
  refine (tfew_at A es n c HN.out (by omega) HBX.out w1 (HR.out.below BB.out) q HQ.out).mono ?_
  rintro e w2 ⟨rfl, hb⟩
  replace BB := Lib.hid (below_next BB.out (Nat.le_refl _) hb)
  clear hb
  cases q with
  | false =>
    go_wp2_with fail
    go_ret
    exact ⟨rfl, BB.out⟩
  | true =>
    have HEF := Lib.hid (few_ef HQ.out HBX.out)
    have hn80 : n ≤ 80 := by rw [← HN.out]; exact (fewE_of HQ.out).2.1
    obtain ⟨qo, hqo⟩ := prop_ex (Once es n)
    have HQO := Lib.hid hqo
    clear hqo HQ HBX hz
    go_wp2_with fail
    refine (once_at A es n c HN.out (by omega) w2 (HR.out.below BB.out) qo HQO.out).mono ?_
    rintro e w3 ⟨rfl, hb⟩
    replace BB := Lib.hid (below_next BB.out (Nat.le_refl _) hb)
    clear hb
    cases qo with
    | false =>
      go_wp2_with fail
      go_ret
      exact ⟨rfl, BB.out⟩
    | true =>
      have HON := Lib.hid (HQO.out.1 rfl)
      obtain ⟨q, hqa⟩ := abvs_ex es n
      have HA := Lib.hid hqa
      have HOR := Lib.hid (Po.Told.ord hqa HON.out.1)
      clear HQO hqa
      go_wp2_with fail
      refine (edges_at A es n c HN.out (by omega) HEF.out w3 (HR.out.below BB.out) q HA.out).mono ?_
      rintro e w4 ⟨B, m, d, rfl, hm, hmd, hrt, hb⟩
      obtain ⟨id, hid⟩ : ∃ id, idAt es = id := ⟨_, rfl⟩
      rw [hid] at hm hrt
      have HID := Lib.hid hid
      obtain ⟨E, hts⟩ : ∃ ts, Po.edgesL q id n = ts := ⟨_, rfl⟩
      rw [hts] at hm hrt
      have HTS := Lib.hid hts
      have HM := Lib.hid hm
      have HT := Lib.hid (rdz_own hrt)
      have hn24 : n ≤ 24 := HON.out.2
      have hmn : m ≤ 576 := by
        rw [← hm, ← hts]
        exact Nat.le_trans Po.edges_le (Nat.mul_le_mul hn24 hn24)
      have HMD : Hid (m ≤ d) := hmd
      replace BB := Lib.hid (below_next BB.out (Nat.le_refl _) hb)
      have HE4 := Lib.hid (HR.out.below BB.out)
      have HEI : Hid (∀ p ∈ E, p.2 ∈ (List.range n).map id) := fun p hp => by
        rw [← HTS.out] at hp
        obtain ⟨i, k, _, hk, _, _, e⟩ := Po.mem_edges.1 (show (p.1, p.2) ∈ _ from hp)
        rw [← e]
        exact List.mem_map_of_mem (List.mem_range.2 hk)
      have HL9 : Hid (((List.range n).map id).length ≤ 90) := by show _ ≤ _; simp; omega
      rw [hid] at HOR
      clear hm hrt hid hts hb HR hmd
      go_wp2_with fail
      go_loopg [6] n (fun gg s6 wr => ∃ i : Nat, i ≤ n ∧ n - i ≤ gg ∧ s6 = .int .i64 (i : Int) ∧ Hid (Below w4.heap.size w4 wr))
      case atStart => exact ⟨0, Nat.zero_le _, by omega, rfl, Below.refl _ _⟩
      case round =>
        obtain ⟨i, hi, hgg, rfl, HB⟩ := hrel
        by_cases hlt : i < n
        · have w5 : (i : Int) < (n : Int) := by omega
          obtain ⟨g, off, rfl⟩ := ent_addr HE4.out (by rw [HN.out]; omega)
          have hid := ent_id HN.out hlt (HE4.out.below HB.out)
          rw [HID.out] at hid
          have c0 := hid.2
          have hg := hid.1
          clear hid
          go_wp2_with fail
          refine (reach_at B E m d HM.out (by omega) (id i) ((List.range n).map id) HEI.out HL9.out wr (RdZ.below HT.out HB.out)).mono ?_
          rintro e w5 ⟨r, C, u, v, rfl, hu, hu9, huv, hrr, hre, hb⟩
          have HU := Lib.hid hu
          have HRR := Lib.hid hrr
          have HRE := Lib.hid hre
          have HB2 := Lib.hid (below_next HB.out (Nat.le_refl _) hb)
          have HE5 := Lib.hid (HE4.out.below HB2.out)
          clear hu hrr hre hb HB c0 hg
          go_wp2_with fail
          go_loopg [8] n (fun g2 s8 wy => ∃ k : Nat, k ≤ n ∧ n - k ≤ g2 ∧ s8 = .int .i64 (k : Int) ∧ Hid (Below w5.heap.size w5 wy))
          case atStart => exact ⟨0, Nat.zero_le _, by omega, rfl, Below.refl _ _⟩
          case round =>
            obtain ⟨k, hk, hgg2, rfl, HG⟩ := hrel
            by_cases hkn : k < n
            · have w6 : (k : Int) < (n : Int) := by omega
              obtain ⟨y, hy⟩ : ∃ y, id k = y := ⟨_, rfl⟩
              have HY := Lib.hid hy
              have HDY : Hid (∀ W, Below w5.heap.size w5 W → W.cell? ⟨g, off + k * 3, none⟩ = some (.int .i64 y)) := fun W hW => by
                have h1 := ent_id HN.out hkn (HE5.out.below hW)
                rw [HID.out, HY.out] at h1
                exact h1.2
              clear hy
              go_wp2_with fail
              obtain ⟨wo, rfl⟩ : ∃ x : World, x = wr := ⟨_, rfl⟩
              go_loopg [9, 10] u (fun g3 s9 s10 wz => ∃ (a : Nat) (b : Bool), u - a ≤ g3 ∧ s10 = .int .i64 (a : Int) ∧ s9 = .bool b ∧ 1 ≤ a ∧ (a ≤ u ∨ a = 1) ∧ Hid (TellB b (y ∈ r.tail.take (a - 1))) ∧ Hid (Below w5.heap.size w5 wz))
              case atStart => exact ⟨1, false, by omega, rfl, rfl, Nat.le_refl _, .inr rfl, by show TellB _ _; unfold TellB; simp, HG⟩
              case round =>
                clear HG
                obtain ⟨a, b, hag, rfl, rfl, ha1, ha2, HH, HG⟩ := hrel
                by_cases hau : a < u
                · have w7 : (a : Int) < (u : Int) := by omega
                  have hd : decide ((a : Int) < (u : Int)) = true := decide_eq_true w7
                  have ha' : a < r.length := by rw [HU.out]; exact hau
                  obtain ⟨gc, oc, hC9, hgc, c1⟩ := RdI.at1 (RdZ.below HRR.out HG.out) ha'
                  subst hC9
                  obtain ⟨x, hx⟩ : ∃ x, r[a] = x := ⟨_, rfl⟩
                  have HX := Lib.hid hx
                  rw [hx] at c1
                  have z1 := gx_cell c1
                  have z2 := gx_cell (HDY.out _ HG.out)
                  obtain ⟨z, hz⟩ : ∃ z, (x == y) = z := ⟨_, rfl⟩
                  have HH2 : Hid (TellB (b || z) (y ∈ r.tail.take (a + 1 - 1))) := by
                    have := tell_next HH.out (show TellB z (x = y) by unfold TellB; rw [← hz, beq_iff_eq])
                    show TellB _ _
                    unfold TellB at this ⊢
                    have ht : a - 1 < r.tail.length := by rw [List.length_tail]; omega
                    rw [this, show a + 1 - 1 = (a - 1) + 1 by omega, List.take_succ_eq_append_getElem ht, List.mem_append, List.mem_singleton, List.getElem_tail]
                    have e : r[a - 1 + 1]'(by omega) = x := by rw [← HX.out]; congr 1; omega
                    rw [e]
                    exact or_congr_right ⟨fun e => e.symm, fun e => e.symm⟩
                  clear c1 hgc hx
                  cases b with
                  | true =>
                    rw [Bool.true_or] at HH2
                    go_wp2_with fail
                    (refine qb_region mixedT (by kernel_rfl) ?_; (repeat (refine hq_step (fun K hK => ?_); go_simp; first | (refine hK _ ?_; clear hK K) | (apply Exists.intro; refine ⟨fun _ => ?_, hK _ ?_⟩; (fail); clear hK K))); refine hq_nil ?_; intro _ hw'; obtain ⟨⟨nq, osq⟩, hw''⟩ := hw'; subst hw'')
                    have HG2 := Lib.hid (below_next HG.out (Nat.le_refl _) (below_gx wr nq osq))
                    clear z1 z2 hz
                    go_wp2_with fail
                    go_roundg (u - (a + 1))
                    case measure => omega
                    case rel => exact ⟨a + 1, true, Nat.le_refl _, by go_num, rfl, by omega, .inl (by omega), HH2, HG2⟩
                  | false =>
                    rw [Bool.false_or] at HH2
                    go_wp2_with fail
                    (refine qb_region mixedT (by kernel_rfl) ?_; (repeat (refine hq_step (fun K hK => ?_); go_simp; first | (refine hK _ ?_; clear hK K) | (apply Exists.intro; refine ⟨fun _ => ?_, hK _ ?_⟩; (fail); clear hK K))); refine hq_nil ?_; intro _ hw'; obtain ⟨⟨nq, osq⟩, hw''⟩ := hw'; subst hw'')
                    have HG2 := Lib.hid (below_next HG.out (Nat.le_refl _) (below_gx wr nq osq))
                    clear z1 z2 hz
                    go_wp2_with fail
                    go_roundg (u - (a + 1))
                    case measure => omega
                    case rel => exact ⟨a + 1, z, Nat.le_refl _, by go_num, rfl, by omega, .inl (by omega), HH2, HG2⟩
                · have hd : decide ((a : Int) < (u : Int)) = false := decide_eq_false (by omega)
                  have HQ : Hid (b = true ↔ q i k = true) := by
                    have h1 := HH.out
                    unfold TellB at h1
                    have h2 : r.tail.take (a - 1) = r.tail := List.take_of_length_le (by rw [List.length_tail, HU.out]; omega)
                    rw [h2] at h1
                    have h3 := HRE.out
                    rw [← HTS.out] at h3
                    have h4 := HOR.out.reach_tail hlt hkn h3
                    rw [HY.out] at h4
                    exact h1.trans h4
                  obtain rfl : b = q i k := by rw [Bool.eq_iff_iff]; exact HQ.out
                  have hi' : i < es.length := by rw [HN.out]; exact hlt
                  have hk' : k < es.length := by rw [HN.out]; exact hkn
                  obtain ⟨g', off', e0, _, c0, c1, c2, hf⟩ := RdEn.at3 (HE5.out.below HG.out) hi'
                  injection e0 with e0
                  injection e0 with e1 e2
                  subst e1; subst e2
                  obtain ⟨g', off', e0, _, d0, d1, d2, hk2⟩ := RdEn.at3 (HE5.out.below HG.out) hk'
                  injection e0 with e0
                  injection e0 with e1 e2
                  subst e1; subst e2
                  have hsx := HEF.out _ (List.getElem_mem hi')
                  have hsy := HEF.out _ (List.getElem_mem hk')
                  obtain ⟨xx, hxx⟩ : ∃ y, es[i] = y := ⟨_, rfl⟩
                  have HXX := Lib.hid hxx
                  obtain ⟨yy, hyy⟩ : ∃ y, es[k] = y := ⟨_, rfl⟩
                  have HYY := Lib.hid hyy
                  rw [hxx] at c0 c1 c2 hf hsx
                  rw [hyy] at d0 d1 d2 hk2 hsy
                  clear hxx hyy
                  obtain ⟨xi, xr, xA, xn, xc, xf⟩ := xx
                  obtain ⟨yi, yr, yA, yn, yc, yf⟩ := yy
                  obtain ⟨hf1, _, hf3⟩ := hf
                  obtain ⟨hk1, _, hk3⟩ := hk2
                  dsimp only at c0 c1 c2 d0 d1 d2 hsx hsy hf1 hf3 hk1 hk3
                  have hqj := HA.out.at_ HN.out hlt hkn (fun _ => HXX.out) (fun _ => HYY.out)
                  have C1 := Lib.hid (fun nn os => above_at ⟨xi, xr, xA, xn, xc, xf⟩ ⟨yi, yr, yA, yn, yc, yf⟩ hf1 hsx.1 hsx.2 hk1 hsy.1 hsy.2 (gx wr nn os) (RdK.below hf3 (below_gx wr nn os)) (RdK.below hk3 (below_gx wr nn os)) (q i k) hqj)
                  have z2 := gx_cell c0
                  have z3 := gx_cell c1
                  have z4 := gx_cell c2
                  have z5 := gx_cell d0
                  have z6 := gx_cell d1
                  have z7 := gx_cell d2
                  clear hf1 hf3 hk1 hk3 hsy hsx hqj c0 c1 c2 d0 d1 d2 HQ
                  have hne : (q i k != q i k) = false := by simp
                  generalize q i k = b at *
                  go_wp2_with fail
                  (refine qb_region mixedT (by kernel_rfl) ?_; (repeat (refine hq_step (fun K hK => ?_); go_simp; first | (refine hK _ ?_; clear hK K) | (apply Exists.intro; refine ⟨fun _ => ?_, hK _ ?_⟩; (go_at_call 12; with_reducible exact calls_gx (C1.out _ _)); clear hK K))); refine hq_nil ?_; intro _ hw'; obtain ⟨⟨nq, osq⟩, hw''⟩ := hw'; subst hw'')
                  have HG3 := Lib.hid (below_next HG.out (Nat.le_refl _) (below_gx wr nq osq))
                  clear z2 z3 z4 z5 z6 z7 C1
                  go_wp2_with fail
                  go_roundg (n - (k + 1))
                  case measure => omega
                  case rel => exact ⟨k + 1, by omega, Nat.le_refl _, by go_num, HG3⟩
            · have HB3 := Lib.hid (below_next HB2.out (Nat.le_refl _) HG.out)
              go_wp2_with fail
              go_roundg (n - (i + 1))
              case measure => omega
              case rel => exact ⟨i + 1, by omega, Nat.le_refl _, by go_num, HB3⟩
        · obtain rfl : i = n := by omega
          clear HE4 HEF HA
          go_wp2_with fail
          obtain ⟨w6, rfl⟩ : ∃ x : World, x = wr := ⟨_, rfl⟩
          have HT6 := Lib.hid (RdZ.below HT.out HB.out)
          go_loopg [11] m (fun gg s11 wr => ∃ j : Nat, j ≤ m ∧ m - j ≤ gg ∧ s11 = .int .i64 (j : Int) ∧ Hid (Below w6.heap.size w6 wr))
          case atStart => exact ⟨0, Nat.zero_le _, by omega, rfl, Below.refl _ _⟩
          case round =>
            obtain ⟨j, hj, hgg, rfl, HG⟩ := hrel
            by_cases hjm : j < m
            · have w5 : (j : Int) < (m : Int) := by omega
              go_wp2_with fail
              have HGD : Hid (Below w6.heap.size w6 wr.drew) := HG.out.drew
              have hMD : m ≤ d := HMD.out
              have hhd := run_headN B m d j (by omega) hMD
              obtain ⟨B8, hcut, hr8⟩ := run_cutN (k := j + 1) HT6.out HM.out (by omega) hMD
              have hw1 : IntKind.i64.wrap ((j : Int) + 1) = (j : Int) + 1 := by rw [IntKind.wrap_i64]; omega
              have hcut2 : ∀ W, (Instr.slice 33 (.slice B m d) (some (.int .i64 ((j : Int) + 1))) none none).run Try.prog W = .ok (.slice B8 (m - (j + 1)) (d - (j + 1))) W := hcut
              have HR8 := Lib.hid hr8
              refine wp_region_held_drew (S := fun w' => Below w6.heap.size w6 w') (by kernel_rfl) HGD.out (fun _ => ?_)
              refine wpAnyH_yes (i := 1) (d := 84) (v := ?_) rfl rfl (by kernel_rfl) (by kernel_rfl) (by kernel_rfl) (fun _ _ _ h => h) (by rfl) ?_ HGD.out ?_
              rotate_left
              · intro w' hSw; skip; go_simp <;> with_reducible rfl
              simp only [Act.put, List.setIfInBounds_toArray, List.set_cons_zero, List.set_cons_succ]
              refine wpAnyH_yes (i := 2) (d := 85) (v := ?_) rfl rfl (by kernel_rfl) (by kernel_rfl) (by kernel_rfl) (fun _ _ _ h => h) (by rfl) ?_ HGD.out ?_
              rotate_left
              · intro w' hSw; skip; go_simp <;> with_reducible rfl
              simp only [Act.put, List.setIfInBounds_toArray, List.set_cons_zero, List.set_cons_succ]
              refine wpAnyH_yes (i := 3) (d := 86) (v := ?_) rfl rfl (by kernel_rfl) (by kernel_rfl) (by kernel_rfl) (fun _ _ _ h => h) (by rfl) ?_ HGD.out ?_
              rotate_left
              · intro w' hSw; skip; go_simp <;> with_reducible rfl
              simp only [Act.put, List.setIfInBounds_toArray, List.set_cons_zero, List.set_cons_succ]
              refine wpAnyH_yes (i := 5) (d := 88) (v := ?_) rfl rfl (by kernel_rfl) (by kernel_rfl) (by kernel_rfl) (fun _ _ _ h => h) (by rfl) ?_ HGD.out ?_
              rotate_left
              · intro w' hSw; skip; go_simp <;> with_reducible rfl
              simp only [Act.put, List.setIfInBounds_toArray, List.set_cons_zero, List.set_cons_succ]
              refine wpAnyH_yes (i := 6) (d := 89) (v := ?_) rfl rfl (by kernel_rfl) (by kernel_rfl) (by kernel_rfl) (fun _ _ _ h => h) (by rfl) ?_ HGD.out ?_
              rotate_left
              · intro w' hSw; skip; go_simp <;> with_reducible rfl
              simp only [Act.put, List.setIfInBounds_toArray, List.set_cons_zero, List.set_cons_succ]
              refine wpAnyH_yes (i := 7) (d := 90) (v := ?_) rfl rfl (by kernel_rfl) (by kernel_rfl) (by kernel_rfl) (fun _ _ _ h => h) (by rfl) ?_ HGD.out ?_
              rotate_left
              · intro w' hSw; skip; go_simp <;> with_reducible rfl
              simp only [Act.put, List.setIfInBounds_toArray, List.set_cons_zero, List.set_cons_succ]
              refine wpAnyH_yes (i := 8) (d := 91) (v := ?_) rfl rfl (by kernel_rfl) (by kernel_rfl) (by kernel_rfl) (fun _ _ _ h => h) (by rfl) ?_ HGD.out ?_
              rotate_left
              · intro w' hSw; skip; go_simp <;> with_reducible rfl
              simp only [Act.put, List.setIfInBounds_toArray, List.set_cons_zero, List.set_cons_succ]
              clear hhd hcut hcut2 hr8 hw1
              generalize wr.drew = wA at *
              refine wpAnyH_one (i := 0) (by kernel_rfl) rfl (by rfl) (fun K hK => ?_)
              go_simp
              have hbq : Below wA.heap.size wA (wA.alloc (.cells #[] 38)) := (gr1 wA _).below
              have ho0 : OwnZ layN (wA.alloc (.cells #[] 38)) wA.heap.size (.slice (some ⟨wA.heap.size, 0, none⟩) 0 0) [] := OwnZ.empty wA wA.heap.size (Nat.le_refl _)
              have hs0 : wA.heap.size ≤ (wA.alloc (.cells #[] 38)).heap.size := hbq.size
              have hg0 := below_next HGD.out (Nat.le_refl _) hbq
              have hra : RdZ layN (wA.alloc (.cells #[] 38)) B (E.take j) := RdZ.take (RdZ.below HT6.out hg0) j
              have hlj : (E.take j).length = j := by rw [List.length_take, HM.out]; omega
              have hld : (E.drop (j + 1)).length = m - (j + 1) := by rw [List.length_drop, HM.out]
              refine hK.out _ _ hg0 ?_
              clear hK
              refine wpAnyH_one (i := 4) (by kernel_rfl) rfl (by rfl) (fun K hK => ?_)
              refine op_append_z layN (.tmp 83) (.tmp 86) 33 underN (by rfl) wA.heap.size _ [] (by rfl) ho0 B (E.take j) j d (by rfl) hra hlj (by rw [maxLen_num]; simp; omega) (by simp [layN]; omega) hs0 ?_
              intro v4 wB o4 b4
              rw [List.nil_append] at o4
              have hB4 := b4 wA hbq
              have hg4 := below_next HGD.out (Nat.le_refl _) hB4
              have hs4 := hB4.size
              have hrb : RdZ layN wB B8 (E.drop (j + 1)) := RdZ.below HR8.out hg4
              obtain ⟨A4, c4, hv4, hc4, _⟩ := OwnZ.form o4 hlj
              subst hv4
              refine hK.out _ _ hg4 ?_
              clear hK b4 ho0 hs0 hg0 hra
              simp only [Act.put, List.setIfInBounds_toArray, List.set_cons_zero, List.set_cons_succ]
              refine wpAnyH_one (i := 9) (by kernel_rfl) rfl (by rfl) (fun K hK => ?_)
              refine op_append_z layN (.tmp 87) (.tmp 91) 33 underN (by rfl) wA.heap.size _ (E.take j) (by rfl) o4 B8 (E.drop (j + 1)) (m - (j + 1)) (d - (j + 1)) (by rfl) hrb hld (by rw [maxLen_num, hlj]; omega) (by simp only [layN]; rw [hlj]; omega) hs4 ?_
              intro v9 wC o9 b9
              have hB9 := b9 wA hB4
              have HG9 := Lib.hid (below_next HGD.out (Nat.le_refl _) hB9)
              have hl9 : (E.take j ++ E.drop (j + 1)).length = m - 1 := by rw [List.length_append, hlj, hld]; omega
              obtain ⟨A9, c9, hv9, hc9, hr9⟩ := OwnZ.form o9 hl9
              subst hv9
              have HR9 := Lib.hid hr9
              have HL9' := Lib.hid hl9
              refine hK.out _ _ HG9.out ?_
              clear hK b9 o4 o9 hB4 hB9 hg4 hs4 hrb hc4 hl9 hr9 hlj hld
              simp only [Act.put, List.setIfInBounds_toArray, List.set_cons_zero, List.set_cons_succ]
              refine wpAnyH_yes (i := 10) (d := 12) (v := ?_) rfl rfl (by kernel_rfl) (by kernel_rfl) (by kernel_rfl) (fun _ _ _ h => h) (by rfl) ?_ HG9.out ?_
              rotate_left
              · intro w' hSw; skip; go_simp <;> with_reducible rfl
              simp only [Act.put, List.setIfInBounds_toArray, List.set_cons_zero, List.set_cons_succ]
              refine wpAnyH_done (by kernel_rfl) ?_ _
              have hj' : j < E.length := by rw [HM.out]; exact hjm
              obtain ⟨gE, oE, rfl, hgE, c0, c1⟩ := RdN.at2 HT6.out hj'
              obtain ⟨⟨x, y⟩, hxy⟩ : ∃ p, E[j] = p := ⟨_, rfl⟩
              rw [hxy] at c0 c1
              dsimp only at c0 c1
              have hsp : E = E.take j ++ (x, y) :: E.drop (j + 1) := by
                rw [← hxy, List.getElem_cons_drop hj', List.take_append_drop]
              have HNE : Hid (∀ r, Po.Reach (E.take j ++ E.drop (j + 1)) x r → ¬ y ∈ r.tail) := fun r hr => HOR.out.reach_less (HTS.out.trans hsp) hr
              have HEI2 : Hid (∀ p ∈ E.take j ++ E.drop (j + 1), p.2 ∈ (List.range i).map id) := fun p hp => HEI.out p (by
                rcases List.mem_append.1 hp with hp | hp
                · exact List.mem_of_mem_take hp
                · exact List.mem_of_mem_drop hp)
              have HCE : Hid (∀ W, Below w6.heap.size w6 W → W.cell? ⟨gE, oE + j * 2, none⟩ = some (.int .i64 x) ∧ W.cell? ⟨gE, oE + j * 2 + 1, none⟩ = some (.int .i64 y)) := fun W hW =>
                ⟨(hW.cell (p := ⟨gE, oE + j * 2, none⟩) hgE).trans c0, (hW.cell (p := ⟨gE, oE + j * 2 + 1, none⟩) hgE).trans c1⟩
              clear hxy c0 c1 hgE hsp HGD HG hbq
              have z0 := (HCE.out _ HG9.out).1
              go_wp2_with fail
              clear z0
              refine (reach_at A9 (E.take j ++ E.drop (j + 1)) (m - 1) c9 HL9'.out (by omega) x ((List.range i).map id) HEI2.out HL9.out wC HR9.out).mono ?_
              rintro e wD ⟨r, C, u, v, rfl, hu, hu9, huv, hrr, hre, hb⟩
              have HU := Lib.hid hu
              have HRR := Lib.hid hrr
              have HNY := Lib.hid (HNE.out r hre)
              have HGE := Lib.hid (below_next HG9.out (Nat.le_refl _) hb)
              clear hu hrr hre hb HG9 HNE HEI2 HR9 HL9'
              go_wp2_with fail
              go_loopg [14] u (fun g3 s14 wz => ∃ a : Nat, u - a ≤ g3 ∧ s14 = .int .i64 (a : Int) ∧ 1 ≤ a ∧ Hid (Below wD.heap.size wD wz))
              case atStart => exact ⟨1, by omega, rfl, Nat.le_refl _, Below.refl _ _⟩
              case round =>
                obtain ⟨a, hag, rfl, ha1, HF⟩ := hrel
                by_cases hau : a < u
                · have w7 : (a : Int) < (u : Int) := by omega
                  have hd : decide ((a : Int) < (u : Int)) = true := decide_eq_true w7
                  have ha' : a < r.length := by rw [HU.out]; exact hau
                  obtain ⟨gc, oc, hC9, hgc, c1⟩ := RdI.at1 (RdZ.below HRR.out HF.out) ha'
                  subst hC9
                  obtain ⟨xa, hxa⟩ : ∃ x, r[a] = x := ⟨_, rfl⟩
                  rw [hxa] at c1
                  have hne : (xa == y) = false := by
                    rw [beq_eq_false_iff_ne]
                    intro e
                    refine HNY.out ?_
                    rw [← e, ← hxa]
                    obtain ⟨a', rfl⟩ : ∃ a', a = a' + 1 := ⟨a - 1, by omega⟩
                    rw [← List.getElem_tail (l := r) (i := a') (by rw [List.length_tail]; omega)]
                    exact List.getElem_mem _
                  have z1 := gx_cell c1
                  have z2 := gx_cell (HCE.out _ (below_next HGE.out (Nat.le_refl _) HF.out)).2
                  clear c1 hgc hxa
                  go_wp2_with fail
                  (refine qb_region mixedT (by kernel_rfl) ?_; (repeat (refine hq_step (fun K hK => ?_); go_simp; first | (refine hK _ ?_; clear hK K) | (apply Exists.intro; refine ⟨fun _ => ?_, hK _ ?_⟩; (fail); clear hK K))); refine hq_nil ?_; intro _ hw'; obtain ⟨⟨nq, osq⟩, hw''⟩ := hw'; subst hw'')
                  have HF2 := Lib.hid (below_next HF.out (Nat.le_refl _) (below_gx wr nq osq))
                  clear z1 z2 hne
                  go_wp2_with fail
                  go_roundg (u - (a + 1))
                  case measure => omega
                  case rel => exact ⟨a + 1, Nat.le_refl _, by go_num, by omega, HF2⟩
                · have hd : decide ((a : Int) < (u : Int)) = false := decide_eq_false (by omega)
                  have HG3 := Lib.hid (below_next HGE.out (Nat.le_refl _) HF.out)
                  go_wp2_with fail
                  go_roundg (m - (j + 1))
                  case measure => omega
                  case rel => exact ⟨j + 1, by omega, Nat.le_refl _, by go_num, HG3⟩
            · obtain rfl : j = m := by omega
              go_wp2_with fail
              go_ret
              exact ⟨rfl, below_next BB.out (Nat.le_refl _) (below_next HB.out (Nat.le_refl _) HG.out)⟩

/-! ### The row's step. -/
namespace posetEdges
theorem own : ownKnob Try.prog.godebug = none := by kernel_rfl
theorem laidOut : laidOutB Try.prog = true := by kernel_rfl
set_option linter.unusedVariables false in
set_option maxRecDepth 100000 in
theorem lifted (os : Os) (started : os.Started) (H : Type) (enc : TypeId × Value → H) :
    ReturnsInHanded {} Try.checked os 5 .any (Rows.posetEdgesSpec.pre6 enc Try.prog Try.f5 Rows.posetEdgesRow.domain false) (Rows.posetEdgesSpec.post enc Try.prog Try.f5 false true false false) := by
  refine returnsInHanded_of_change_sized (C := Try.checked) own started (by kernel_rfl) Try.func5
    (ChangeSpec.witness6 (enc := enc) (C := Try.checked) false ⟨#[], #[.slice none 0 0], []⟩ 8 (by kernel_rfl) (by kernel_rfl) (by kernel_rfl) (by kernel_rfl)) ?_
  intro W base args ds gs before hval0 hW hcnd hsz0 _
  have hval : ∀ (j : Nat) t v, Try.f5.params[j]? = some t → args[j]? = some v → Value.okWide Try.prog W .any base t v := hval0
  have hsz : (DataW.weightsEach Try.prog (Try.f5.params.toList ++ Rows.posetEdgesSpec.plain.varTypes Try.prog) (ds ++ gs)).all (· ≤ reachBytes) = true := hsz0
  have hW' := hW
  obtain ⟨p, q, hA0, hV, rfl, hfz, hnd⟩ := hW
  have hA : DataW.TrodAll enc Try.prog W 0 (fun _ => true) true Try.f5.params.toList args.toList ds p := hA0
  rw [Try.params5] at hA hval hsz
  obtain ⟨v0, vs0, d0, ds0, p0, q0, hargs, rfl, rfl, h0, r0⟩ := trodAll_cons hA
  obtain ⟨rfl, rfl, rfl⟩ := trodAll_nil r0
  obtain rfl : args = #[v0] := by cases args; simp_all
  obtain ⟨rfl, rfl⟩ := trodVars_none hV
  obtain ⟨a0, len0, cap0, rfl⟩ := okWide_slice Try.underlying22 (hval 0 22 v0 rfl rfl)
  have k0 := h0
  have lt0 : ∀ x ∈ p0, x.block < W.heap.size := by obtain ⟨m, hm⟩ := k0; exact DataW.trod_lt m _ _ _ hm
  obtain ⟨es0, hl0, hc0, hm0, hz0, rd0, hw0⟩ := open_ents_of k0 (fun n hn => by simpa using List.all_eq_true.1 hsz n (DataW.weights_mem_each (j := 0) rfl rfl n hn))
  clear hA0 hval0
  refine (walk_PosetEdges W a0 es0 len0 cap0 hl0 hc0 hm0 hz0 rd0 hw0).mono fun e W' ⟨he, bel⟩ => ?_
  subst he
  exact ⟨_, rfl, _, _, _, [], _, [], hW', trodAll_mk1 (shut_bool Try.underlying4 _), (trodAll_cons_mk (Below.trod laidOut (by kernel_rfl) (of_decide_eq_true (by kernel_rfl)) k0 bel lt0) trodAll_mk0), rfl, bel.frame _, fun h => by cases h⟩
theorem over : Rows.posetEdgesRow.holds Try.pinned (OpenSpec.ofChange Rows.posetEdgesSpec) :=
  OpenClaim.holds_of_wide 5 Try.f5 rfl rfl rfl rfl rfl rfl rfl ⟨rfl, rfl, rfl, rfl, rfl⟩ rfl rfl rfl rfl rfl (by kernel_rfl) Try.func5 (by kernel_rfl)
    (of_decide_eq_true (by kernel_rfl)) (by unfold Func.isWrapper; first | (rw [if_pos (by decide +kernel)]; kernel_rfl) | (rw [if_neg (by decide +kernel)]; exact ⟨rfl, rfl⟩))
    (fun os started H enc _ => lifted os started H enc)
end posetEdges
/-- THE STATEMENT. -/
theorem posetEdges_holds : Rows.PosetEdgesSaid := posetEdges.over
#print axioms posetEdges_holds
end Go.Proofs.Ytckabmlilbkmbaa
