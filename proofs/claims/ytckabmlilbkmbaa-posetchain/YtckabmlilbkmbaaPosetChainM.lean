/-
  Entries of one filter stand in a row, the least Id first, and of a filter that may not be none stands above another one: for every row of predicates and every row of ints that hold together at most 1048576 values and letters, the call of the law answers true, and all arguments read behind it as they read before.
-/
import Derived.Deep.CondSized
import Derived.Test.YtckabmlilbkmbaaP5
namespace Go.Proofs.Ytckabmlilbkmbaa
open Go.RowKit Go.ChangeShapes Go.WideShapes Go.ChangeAt Go.Sort Spans Tb
theorem rdz_ints {w : World} {A : Option Addr} {zs : List Int} (h : RdV w A (zs.map (Value.int .i64))) : RdZ layI w A zs := by
  rcases h with h | ⟨g, off, e, hg, hc⟩
  · exact .inl (by simpa using h)
  · refine .inr ⟨g, off, e, hg, fun i hi j v hv => ?_⟩
    have hj : j = 0 := by have := (List.getElem?_eq_some_iff.1 hv).1; simpa [layI] using this
    subst hj
    have := hc i (by simpa using hi)
    simp [layI] at hv ⊢
    rw [this, ← hv]; simp
/-- The entries of one filter. -/
def oneF (A : Option Addr) (n c : Nat) (f : List Pr) (zs : List Int) : List Ex := zs.map fun i => ⟨i, 0, A, n, c, f⟩
theorem oneF_len {A : Option Addr} {n c : Nat} {f : List Pr} {zs : List Int} : (oneF A n c f zs).length = zs.length := by simp [oneF]
theorem oneF_id {A : Option Addr} {n c : Nat} {f : List Pr} {zs : List Int} {i : Nat} (h : i < zs.length) : idAt (oneF A n c f zs) i = zs[i] := by
  rw [idAt_is (by rw [oneF_len]; exact h)]; simp [oneF]
theorem oneF_f {A : Option Addr} {n c : Nat} {f : List Pr} {zs : List Int} {i : Nat} (h : i < zs.length) : flAt (oneF A n c f zs) i = f := by
  rw [flAt_is (by rw [oneF_len]; exact h)]; simp [oneF]
theorem oneF_snoc {A : Option Addr} {n c : Nat} {f : List Pr} {zs : List Int} {k : Nat} (h : k < zs.length) : oneF A n c f (zs.take (k + 1)) = oneF A n c f (zs.take k) ++ [⟨zs[k], 0, A, n, c, f⟩] := by
  unfold oneF; rw [List.take_succ_eq_append_getElem h, List.map_append]; rfl
theorem ids_map {id : Nat → Int} {zs : List Int} (h : ∀ i (hh : i < zs.length), id i = zs[i]) : (List.range zs.length).map id = zs := by
  apply List.ext_getElem
  · simp
  · intro i h1 h2
    simp [h i h2]
set_option maxRecDepth 100000 in
set_option maxHeartbeats 8000000 in
theorem walk_PosetChain (w : World) (A : Option Addr) (f : List Pr) (nf cf : Nat) (hnf : f.length = nf) (hcf : nf ≤ cf) (_ : cf ≤ maxLen) (hzf : nf ≤ 1048576) (hrf : RdQ w A f) (hlf : ∀ a ∈ f, a.n.length ≤ maxLen ∧ a.t.length ≤ maxLen ∧ (Lit.int .i64 a.i).wf = true) (B : Option Addr) (zs : List Int) (n c : Nat) (hn : zs.length = n) (_ : n ≤ c) (_ : c ≤ maxLen) (hz : n ≤ 1048576) (hr : RdV w B (zs.map (Value.int .i64))) (hw : ∀ z ∈ zs, (Lit.int .i64 z).wf = true) :
    Calls Try.prog 8 #[.slice A nf cf, .slice B n c] w fun e w' => e = .returned (.bool true) ∧ Below w.heap.size w w' := by
  have HNF := Lib.hid hnf
  have HCF := Lib.hid hcf
  have HRF := Lib.hid hrf
  have HN := Lib.hid hn
  have HRZ := Lib.hid (rdz_ints hr)
  have HXB : Hid (EBx (oneF A nf cf f zs)) := fun x hx => by
    obtain ⟨i, hi, rfl⟩ := List.mem_map.1 hx
    have hb := bounds_i64 (hw i hi)
    exact ⟨Nat.le_trans hzf (by decide), hb.1, hb.2, fun p hp => by
      have := hlf p hp
      rw [maxLen_num] at this
      have hb := bounds_i64 this.2.2
      exact ⟨this.1, this.2.1, hb.1, hb.2⟩⟩
  obtain ⟨q, hq⟩ : ∃ q, fewE (oneF A nf cf f zs) = q := ⟨_, rfl⟩
  have HQ := Lib.hid hq
  clear hnf hcf hrf hlf hn hr hw hq
  go_enter Try.func8, Try.ntmps8
  go_wp2_with fail
  refine (small_at w).mono ?_
  rintro e w1 ⟨rfl, hb⟩
  have BB := Lib.hid hb
  have HZ1 := Lib.hid (RdZ.below HRZ.out hb)
  have HF1 := Lib.hid (RdK.below HRF.out hb)
  clear hb HRZ HRF
  go_wp2_with fail
  go_loopg [6, 7] n (fun gg s6 s7 wr => ∃ (k : Nat) (D : Option Addr) (d : Nat), k ≤ n ∧ n - k ≤ gg ∧ s7 = .int .i64 (k : Int) ∧ s6 = .slice D k d ∧ k ≤ d ∧ Hid (OwnK layE wr w1.heap.size (.slice D k d) (oneF A nf cf f (zs.take k))) ∧ Hid (Below w1.heap.size w1 wr))
  case atStart => exact ⟨0, none, 0, Nat.zero_le _, by omega, rfl, rfl, Nat.le_refl _, OwnK.none_ _ _, Below.refl _ _⟩
  case round =>
    obtain ⟨k, D, d, hk, hgg, rfl, rfl, hkd, HO, HB⟩ := hrel
    by_cases hlt : k < n
    · have hk' : k < zs.length := by rw [HN.out]; exact hlt
      have w5 : (k : Int) < (n : Int) := by omega
      obtain ⟨g, off, rfl, hg, c0⟩ := RdI.at1 (RdZ.below HZ1.out HB.out) hk'
      obtain ⟨z, hz0⟩ : ∃ z, zs[k] = z := ⟨_, rfl⟩
      rw [hz0] at c0
      have hsn := oneF_snoc (A := A) (n := nf) (c := cf) (f := f) hk'
      rw [hz0] at hsn
      have HSN := Lib.hid hsn
      have hrx := rdk_one layE wr ⟨z, 0, A, nf, cf, f⟩ 28 #[.int .i64 z, .int .i64 0, .slice A nf cf] rfl
      have hbq : Below wr.heap.size wr (wr.alloc (.cells #[.int .i64 z, .int .i64 0, .slice A nf cf] 28)) := (gr1 wr _).below
      have ho3 := OwnK.below HO.out hbq
      have hs3 : w1.heap.size ≤ (wr.alloc (.cells #[.int .i64 z, .int .i64 0, .slice A nf cf] 28)).heap.size := Nat.le_trans HB.out.size hbq.size
      have hb3 := below_next HB.out (Nat.le_refl _) hbq
      have hlm : (oneF A nf cf f (zs.take k)).length = k := by rw [oneF_len, List.length_take]; omega
      clear hsn hz0
      go_wp2_with (at_builtin; refine wpList_append_k layE (by rfl) (.tmp 21) (.tmp 28) 22 underE rfl w1.heap.size _ (oneF A nf cf f (zs.take k)) (by rfl) ho3 _ [⟨z, 0, A, nf, cf, f⟩] 1 1 (by rfl) hrx rfl (by rw [maxLen_num, hlm]; omega) (by simp only [layE]; rw [hlm]; omega) hs3 ?_; intro v2 y2 o2 b2 _ _; rw [← HSN.out] at o2; have hl2 : (oneF A nf cf f (zs.take (k + 1))).length = k + 1 := (by rw [oneF_len, List.length_take]; omega); obtain ⟨B2, d2, hv2, hd2, _⟩ := OwnK.form o2 hl2; subst hv2; have HB3 := Lib.hid (b2 w1 hb3); have HO3 := Lib.hid o2; clear b2 o2 hl2 hb3 ho3 hrx hbq hs3 hlm c0 hg)
      go_roundg (n - (k + 1))
      case measure => omega
      case rel => exact ⟨k + 1, B2, d2, by omega, Nat.le_refl _, by go_num, rfl, hd2, HO3, HB3⟩
    · obtain rfl : k = n := by omega
      have htk : zs.take k = zs := List.take_of_length_le (by rw [HN.out]; exact Nat.le_refl _)
      have hoo := HO.out
      rw [htk] at hoo
      have HRD : Hid (RdEn wr D (oneF A nf cf f zs)) := ⟨rdk_own hoo, fun x hx => by
        obtain ⟨i, hi, rfl⟩ := List.mem_map.1 hx
        exact ⟨HNF.out, HCF.out, RdK.below HF1.out HB.out⟩⟩
      have HLE : Hid ((oneF A nf cf f zs).length = k) := by rw [oneF_len]; exact HN.out
      replace BB := Lib.hid (below_next BB.out (Nat.le_refl _) HB.out)
      have HZ2 := Lib.hid (RdZ.below HZ1.out HB.out)
      have HF2 := Lib.hid (RdK.below HF1.out HB.out)
      obtain ⟨es, hes⟩ : ∃ es, oneF A nf cf f zs = es := ⟨_, rfl⟩
      have HES := Lib.hid hes
      rw [hes] at HRD HLE HXB HQ
      clear htk hoo HZ1 HF1 HB HO hes
      obtain ⟨w2, rfl⟩ : ∃ x : World, x = wr := ⟨_, rfl⟩
      go_wp2_with fail
      refine (tfew_at D es k d HLE.out (by omega) HXB.out w2 HRD.out q HQ.out).mono ?_
      rintro e w3 ⟨rfl, hb⟩
      replace BB := Lib.hid (below_next BB.out (Nat.le_refl _) hb)
      replace HRD := Lib.hid (HRD.out.below hb)
      replace HZ2 := Lib.hid (RdZ.below HZ2.out hb)
      replace HF2 := Lib.hid (RdK.below HF2.out hb)
      clear hb
      cases q with
      | false =>
        go_wp2_with fail
        go_ret
        exact ⟨rfl, BB.out⟩
      | true =>
        have HEF := Lib.hid (few_ef HQ.out HXB.out)
        have hk80 : k ≤ 80 := by rw [← HLE.out]; exact (fewE_of HQ.out).2.1
        obtain ⟨qo, hqo⟩ := prop_ex (Once es k)
        have HQO := Lib.hid hqo
        clear hqo HQ HXB
        go_wp2_with fail
        refine (once_at D es k d HLE.out (by omega) w3 HRD.out qo HQO.out).mono ?_
        rintro e w4 ⟨rfl, hb⟩
        replace BB := Lib.hid (below_next BB.out (Nat.le_refl _) hb)
        replace HRD := Lib.hid (HRD.out.below hb)
        replace HZ2 := Lib.hid (RdZ.below HZ2.out hb)
        replace HF2 := Lib.hid (RdK.below HF2.out hb)
        clear hb
        cases qo with
        | false =>
          go_wp2_with fail
          go_ret
          exact ⟨rfl, BB.out⟩
        | true =>
          have HON := Lib.hid (HQO.out.1 rfl)
          have hk24 : k ≤ 24 := HON.out.2
          by_cases hk0 : k < 1
          · have hd : decide ((k : Int) < 1) = true := decide_eq_true (by omega)
            go_wp2_with fail
            go_ret
            exact ⟨rfl, BB.out⟩
          have hd : decide ((k : Int) < 1) = false := decide_eq_false (by omega)
          have hfx : nf ≤ 1000 ∧ PBd f := by
            have h0 : 0 < zs.length := by rw [HN.out]; omega
            have := HEF.out ⟨zs[0], 0, A, nf, cf, f⟩ (by rw [← HES.out]; exact List.mem_map.2 ⟨zs[0], List.getElem_mem h0, rfl⟩)
            exact this
          have HFX := Lib.hid hfx
          obtain ⟨q, hqa⟩ := abvs_ex es k
          have HA := Lib.hid hqa
          have HTD : Hid (Po.Told q (idAt es) (fun _ => f) k) := fun i j hi hj => by
            have := hqa i j hi hj
            rw [← HES.out, oneF_f (by rw [HN.out]; exact hi), oneF_f (by rw [HN.out]; exact hj), HES.out] at this
            exact this
          have HIZ : Hid (∀ i (h : i < zs.length), idAt es i = zs[i]) := fun i h => by rw [← HES.out]; exact oneF_id h
          obtain ⟨qc, hqc⟩ := prop_ex (Fil.Cov f f)
          have HQC := Lib.hid hqc
          clear HQO hqa hfx hqc hzf
          go_wp2_with fail
          clear hd
          refine (tops_at D es k d HLE.out (by omega) HEF.out w4 HRD.out q HA.out).mono ?_
          rintro e w5 ⟨T1, m1, d1, rfl, hm1, hmd1, hrt1, hb⟩
          have HT1 := Lib.hid hrt1
          have HM1 := Lib.hid hm1
          replace BB := Lib.hid (below_next BB.out (Nat.le_refl _) hb)
          replace HRD := Lib.hid (HRD.out.below hb)
          replace HZ2 := Lib.hid (RdZ.below HZ2.out hb)
          replace HF2 := Lib.hid (RdK.below HF2.out hb)
          clear hb hrt1 hm1 hmd1
          go_wp2_with fail
          refine (edges_at D es k d HLE.out (by omega) HEF.out w5 HRD.out q HA.out).mono ?_
          rintro e w6 ⟨T2, m2, d2, rfl, hm2, hmd2, hrt2, hb⟩
          have HT2 := Lib.hid (rdz_own hrt2)
          have HM2 := Lib.hid hm2
          replace HT1 := Lib.hid (RdZ.below HT1.out hb)
          replace BB := Lib.hid (below_next BB.out (Nat.le_refl _) hb)
          replace HZ2 := Lib.hid (RdZ.below HZ2.out hb)
          replace HF2 := Lib.hid (RdK.below HF2.out hb)
          clear hb hrt2 hm2 hmd2 HRD HA HEF HLE
          have hm1k : m1 ≤ k := by rw [← HM1.out]; exact Po.topsTo_len k
          have hm2k : m2 ≤ 576 := by rw [← HM2.out]; exact Nat.le_trans Po.edges_le (Nat.mul_le_mul hk24 hk24)
          go_wp2_with fail
          refine (covers_at A f nf cf HNF.out HFX.out.1 HFX.out.2 A f nf cf HNF.out HFX.out.1 HFX.out.2 w6 HF2.out HF2.out).mono ?_
          rintro e w7 ⟨q7, rfl, hq7, hb⟩
          obtain rfl : q7 = qc := by rw [Bool.eq_iff_iff, hq7, HQC.out]
          replace HT1 := Lib.hid (RdZ.below HT1.out hb)
          replace HT2 := Lib.hid (RdZ.below HT2.out hb)
          replace BB := Lib.hid (below_next BB.out (Nat.le_refl _) hb)
          replace HZ2 := Lib.hid (RdZ.below HZ2.out hb)
          clear hb hq7 HF2 HFX HNF HCF
          cases q7 with
          | false =>
            have hfl := HTD.out.flat fun h => by have := HQC.out.2 h; cases this
            have ht : Po.topsL q (idAt es) k = zs := by
              rw [Po.flat_tops hfl, ← HN.out]; exact ids_map HIZ.out
            have he : Po.edgesL q (idAt es) k = [] := Po.flat_edges hfl
            rw [ht] at HM1 HT1
            rw [he] at HM2 HT2
            obtain rfl : m1 = k := HM1.out.symm.trans HN.out
            obtain rfl : m2 = 0 := HM2.out.symm
            clear hfl ht he HTD HIZ HQC
            go_wp2_with fail
            refine (ints_at T1 zs m1 d1 HN.out B zs m1 c HN.out ⟨by omega, by omega⟩ w7 HT1.out HZ2.out true (by simp)).mono ?_
            rintro e w8 ⟨rfl, hb⟩
            replace BB := Lib.hid (below_next BB.out (Nat.le_refl _) hb)
            clear hb
            go_wp2_with fail
            go_ret
            exact ⟨rfl, BB.out⟩
          | true =>
            have hch := HTD.out.chain HON.out.1 (HQC.out.1 rfl)
            obtain ⟨i0, hi0, ht, hmin⟩ := hch.top (by omega)
            have hln := hch.len (by omega)
            obtain ⟨E, hE⟩ : ∃ E, Po.edgesL q (idAt es) k = E := ⟨_, rfl⟩
            have HED : Hid (∀ x y, (x, y) ∈ E → x < y ∧ ∀ i, i < k → ¬ (x < idAt es i ∧ idAt es i < y)) := fun x y h => by
              rw [← hE] at h
              exact hch.edge h
            obtain ⟨x0, hx0⟩ : ∃ x, idAt es i0 = x := ⟨_, rfl⟩
            rw [hx0] at ht hmin
            rw [ht] at HM1 HT1
            rw [hE] at HM2 HT2 hln
            obtain rfl : m1 = 1 := HM1.out.symm
            have HM2E : Hid (m2 = k - 1) := by show _ = _; rw [← HM2.out]; exact hln
            have HMIN := Lib.hid hmin
            clear hch ht hmin hln hE hx0 hi0 HTD HON HQC
            go_wp2_with fail
            obtain ⟨w8, rfl⟩ : ∃ x : World, x = w7 := ⟨_, rfl⟩
            go_loopg [11] k (fun gg s11 wr => ∃ i : Nat, i ≤ k ∧ k - i ≤ gg ∧ s11 = .int .i64 (i : Int) ∧ Hid (Below w8.heap.size w8 wr))
            case atStart => exact ⟨0, Nat.zero_le _, by omega, rfl, Below.refl _ _⟩
            case round =>
              obtain ⟨i, hi, hgg, rfl, HB⟩ := hrel
              by_cases hik : i < k
              · have w5 : (i : Int) < (k : Int) := by omega
                have hi' : i < zs.length := by rw [HN.out]; exact hik
                obtain ⟨g, off, rfl, hg, c0⟩ := RdI.at1 HZ2.out hi'
                obtain ⟨z, hz0⟩ : ∃ z, zs[i] = z := ⟨_, rfl⟩
                rw [hz0] at c0
                have HZI : Hid (idAt es i = z) := (HIZ.out i hi').trans hz0
                have HDZ : Hid (∀ W, Below w8.heap.size w8 W → W.cell? ⟨g, off + i, none⟩ = some (.int .i64 z)) := fun W hW => (hW.cell (p := ⟨g, off + i, none⟩) hg).trans c0
                clear hz0 c0 hg
                go_wp2_with fail
                go_loopg [12] m2 (fun g2 s12 wy => ∃ j : Nat, j + g2 = m2 ∧ s12 = .int .i64 (j : Int) ∧ Hid (Below w8.heap.size w8 wy))
                case atStart => exact ⟨0, by omega, rfl, HB⟩
                case round =>
                  clear HB
                  obtain ⟨j, hjg, rfl, HB⟩ := hrel
                  cases gk with
                  | zero =>
                    obtain rfl : j = m2 := by omega
                    go_wp2_with fail
                    go_roundg (k - (i + 1))
                    case measure => omega
                    case rel => exact ⟨i + 1, by omega, Nat.le_refl _, by go_num, HB⟩
                  | succ gk =>
                    have hj' : j < E.length := by rw [HM2.out]; omega
                    have w6 : (j : Int) < (m2 : Int) := by omega
                    obtain ⟨ge, oe, rfl, hge, c1, c2⟩ := RdN.at2 (RdZ.below HT2.out HB.out) hj'
                    obtain ⟨⟨x, y⟩, hxy⟩ : ∃ p, E[j] = p := ⟨_, rfl⟩
                    rw [hxy] at c1 c2
                    dsimp only at c1 c2
                    obtain ⟨hlt, hbt⟩ := HED.out x y (by rw [← hxy]; exact List.getElem_mem hj')
                    have hbz := hbt i hik
                    rw [HZI.out] at hbz
                    have hd1 : decide (y ≤ x) = false := decide_eq_false (by omega)
                    have z0 := gx_cell (HDZ.out _ HB.out)
                    have z1 := gx_cell c1
                    have z2 := gx_cell c2
                    clear hxy hlt hbt c1 c2 hge
                    by_cases hxz : x < z
                    · have hd2 : decide (x < z) = true := decide_eq_true hxz
                      have hd3 : decide (z < y) = false := decide_eq_false fun h => hbz ⟨hxz, h⟩
                      clear hbz hxz
                      go_wp2_with fail
                      (refine qb_region mixedT (by kernel_rfl) ?_; (repeat (refine hq_step (fun K hK => ?_); go_simp; first | (refine hK _ ?_; clear hK K) | (apply Exists.intro; refine ⟨fun _ => ?_, hK _ ?_⟩; (fail); clear hK K))); refine hq_nil ?_; intro _ hw'; obtain ⟨⟨nq, osq⟩, hw''⟩ := hw'; subst hw'')
                      have HB2 := Lib.hid (below_next HB.out (Nat.le_refl _) (below_gx wr nq osq))
                      clear z0 z1 z2 hd1 hd2 hd3
                      go_wp2_with fail
                      go_roundg gk
                      case measure => omega
                      case rel => exact ⟨j + 1, by omega, by go_num, HB2⟩
                    · have hd2 : decide (x < z) = false := decide_eq_false hxz
                      clear hbz hxz
                      go_wp2_with fail
                      (refine qb_region mixedT (by kernel_rfl) ?_; (repeat (refine hq_step (fun K hK => ?_); go_simp; first | (refine hK _ ?_; clear hK K) | (apply Exists.intro; refine ⟨fun _ => ?_, hK _ ?_⟩; (fail); clear hK K))); refine hq_nil ?_; intro _ hw'; obtain ⟨⟨nq, osq⟩, hw''⟩ := hw'; subst hw'')
                      have HB2 := Lib.hid (below_next HB.out (Nat.le_refl _) (below_gx wr nq osq))
                      clear z0 z1 z2 hd1 hd2
                      go_wp2_with fail
                      go_roundg gk
                      case measure => omega
                      case rel => exact ⟨j + 1, by omega, by go_num, HB2⟩
              · obtain rfl : i = k := by omega
                have hw1 : IntKind.i64.wrap ((i : Int) - 1) = (i : Int) - 1 := by rw [IntKind.wrap_i64]; omega
                have hne : ((m2 : Int) != (i : Int) - 1) = false := by have := HM2E.out; simp; omega
                go_wp2_with fail
                clear hw1 hne
                obtain ⟨w9, rfl⟩ : ∃ x : World, x = wr := ⟨_, rfl⟩
                go_loopg [13] i (fun gg s13 wr => ∃ j : Nat, j ≤ i ∧ i - j ≤ gg ∧ s13 = .int .i64 (j : Int) ∧ Hid (Below w8.heap.size w8 wr))
                case atStart => exact ⟨0, Nat.zero_le _, by omega, rfl, HB⟩
                case round =>
                  obtain ⟨j, hj, hgg2, rfl, HG⟩ := hrel
                  by_cases hji : j < i
                  · have w5 : (j : Int) < (i : Int) := by omega
                    have hj' : j < zs.length := by rw [HN.out]; exact hji
                    obtain ⟨g, off, rfl, hg, c0⟩ := RdI.at1 (RdZ.below HZ2.out HG.out) hj'
                    obtain ⟨g', off', rfl, hg', c1⟩ := RdI.at1 (RdZ.below HT1.out HG.out) (k := 0) (by simp)
                    simp only [List.getElem_cons_zero, Nat.add_zero] at c1
                    obtain ⟨z, hz0⟩ : ∃ z, zs[j] = z := ⟨_, rfl⟩
                    rw [hz0] at c0
                    have hle := HMIN.out j hji
                    rw [HIZ.out j hj', hz0] at hle
                    have hd3 : decide (z < x0) = false := decide_eq_false (by omega)
                    have z0 := gx_cell c0
                    have z1 := gx_cell c1
                    clear hz0 hle c0 c1 hg hg'
                    go_wp2_with fail
                    (refine qb_region mixedT (by kernel_rfl) ?_; (repeat (refine hq_step (fun K hK => ?_); go_simp; first | (refine hK _ ?_; clear hK K) | (apply Exists.intro; refine ⟨fun _ => ?_, hK _ ?_⟩; (fail); clear hK K))); refine hq_nil ?_; intro _ hw'; obtain ⟨⟨nq, osq⟩, hw''⟩ := hw'; subst hw'')
                    have HG2 := Lib.hid (below_next HG.out (Nat.le_refl _) (below_gx wr nq osq))
                    clear z0 z1 hd3
                    go_wp2_with fail
                    go_roundg (i - (j + 1))
                    case measure => omega
                    case rel => exact ⟨j + 1, by omega, Nat.le_refl _, by go_num, HG2⟩
                  · have hjn : j = i := by omega
                    clear hjn
                    go_wp2_with fail
                    go_ret
                    exact ⟨rfl, below_next BB.out (Nat.le_refl _) HG.out⟩

/-! ### The row's step. -/
namespace posetChain
theorem own : ownKnob Try.prog.godebug = none := by kernel_rfl
theorem laidOut : laidOutB Try.prog = true := by kernel_rfl
set_option linter.unusedVariables false in
set_option maxRecDepth 100000 in
theorem lifted (os : Os) (started : os.Started) (H : Type) (enc : TypeId × Value → H) (F : Stop.Interp) :
    ReturnsInHanded {} Try.checked os 8 .any ((Rows.OpenSpec.upto Rows.posetChainSpec).pre6 enc Try.prog Try.f8 Rows.posetChainUptoRow.domain false) (((Rows.OpenSpec.upto Rows.posetChainSpec).at F).post enc Try.prog Try.f8 false true false false) := by
  refine returnsInHanded_of_cond_sized (C := Try.checked) (s := (Rows.OpenSpec.upto Rows.posetChainSpec)) (k := Rows.uptoSmall) rfl own started (by kernel_rfl) Try.func8
    (OpenSpec.witness (enc := enc) (C := Try.checked) (s := (Rows.OpenSpec.upto Rows.posetChainSpec)) (k := Rows.uptoSmall) rfl false ⟨#[], #[.slice none 0 0, .slice none 0 0], []⟩ 8 (by kernel_rfl) (by kernel_rfl) (by kernel_rfl) (x := ([.nil, .nil], [], [])) (by kernel_rfl) rfl (by kernel_rfl)) ?_
  intro W base args ds gs before hval0 hW hcnd hk0 hsz0 _
  have hk : Rows.uptoSmall H (ds ++ gs) = true := hk0
  have hval : ∀ (j : Nat) t v, Try.f8.params[j]? = some t → args[j]? = some v → Value.okWide Try.prog W .any base t v := hval0
  have hsz : (DataW.weightsEach Try.prog (Try.f8.params.toList ++ (Rows.OpenSpec.upto Rows.posetChainSpec).bare.plain.varTypes Try.prog) (ds ++ gs)).all (· ≤ reachBytes) = true := hsz0
  have hW' := hW
  obtain ⟨p, q, hA0, hV, rfl, hfz, hnd⟩ := hW
  have hA : DataW.TrodAll enc Try.prog W 0 (fun _ => true) true Try.f8.params.toList args.toList ds p := hA0
  rw [Try.params8] at hA hval hsz
  obtain ⟨v0, vs0, d0, ds0, p0, q0, hargs, rfl, rfl, h0, r0⟩ := trodAll_cons hA
  obtain ⟨v1, vs1, d1, ds1, p1, q1, rfl, rfl, rfl, h1, r1⟩ := trodAll_cons r0
  obtain ⟨rfl, rfl, rfl⟩ := trodAll_nil r1
  obtain rfl : args = #[v0, v1] := by cases args; simp_all
  obtain ⟨rfl, rfl⟩ := trodVars_none hV
  obtain ⟨a0, len0, cap0, rfl⟩ := okWide_slice Try.underlying26 (hval 0 26 v0 rfl rfl)
  have k0 := h0
  have lt0 : ∀ x ∈ p0, x.block < W.heap.size := by obtain ⟨m, hm⟩ := k0; exact DataW.trod_lt m _ _ _ hm
  obtain ⟨es0, hl0, hc0, hm0, rd0, hw0⟩ := open_preds_of Try.underlying26 Try.underlying47 (by kernel_rfl) ⟨rfl, rfl, by kernel_rfl⟩ ⟨rfl, rfl, by kernel_rfl⟩ ⟨rfl, rfl, by kernel_rfl⟩ Try.underlying9 Try.underlying3 Try.underlying45 ⟨rfl, rfl, by kernel_rfl⟩ ⟨rfl, rfl, by kernel_rfl⟩ ⟨rfl, rfl, by kernel_rfl⟩ Try.underlying3 Try.underlying3 Try.underlying9 k0
  obtain ⟨a1, len1, cap1, rfl⟩ := okWide_slice Try.underlying30 (hval 1 30 v1 rfl rfl)
  have k1 := h1
  have lt1 : ∀ x ∈ p1, x.block < W.heap.size := by obtain ⟨m, hm⟩ := k1; exact DataW.trod_lt m _ _ _ hm
  obtain ⟨zs1, hl1, hc1, hm1, rd1, hw1⟩ := open_ints_of Try.underlying30 Try.underlying3 (by kernel_rfl) k1
  clear hA0 hval0
  refine (walk_PosetChain W a0 es0 len0 cap0 hl0 hc0 hm0 (bulk_slice Try.underlying26 k0 hk (by simp)) rd0 hw0 a1 zs1 len1 cap1 hl1 hc1 hm1 (bulk_slice Try.underlying30 k1 hk (by simp)) rd1 hw1).mono fun e W' ⟨he, bel⟩ => ?_
  subst he
  exact ⟨_, rfl, _, _, _, [], _, [], hW', trodAll_mk1 (shut_bool Try.underlying4 _), (trodAll_cons_mk (Below.trod laidOut (by kernel_rfl) (of_decide_eq_true (by kernel_rfl)) k0 bel lt0) (trodAll_cons_mk (Below.trod laidOut (by kernel_rfl) (of_decide_eq_true (by kernel_rfl)) k1 bel lt1) trodAll_mk0)), rfl, bel.frame _, fun h => by cases h⟩
theorem over : Rows.PosetChainUptoSaid :=
  OpenClaim.holds_of_cond 8 Try.f8 rfl rfl rfl rfl rfl rfl rfl ⟨rfl, rfl, rfl, rfl, rfl⟩ rfl rfl rfl rfl rfl (by kernel_rfl) Try.func8 (by kernel_rfl)
    (of_decide_eq_true (by kernel_rfl)) (by unfold Func.isWrapper; first | (rw [if_pos (by decide +kernel)]; kernel_rfl) | (rw [if_neg (by decide +kernel)]; exact ⟨rfl, rfl⟩))
    (fun os started H enc _ F => lifted os started H enc F)
end posetChain
/-- THE STATEMENT. -/
theorem posetChain_holds : Rows.PosetChainUptoSaid := posetChain.over
#print axioms posetChain_holds
end Go.Proofs.Ytckabmlilbkmbaa
