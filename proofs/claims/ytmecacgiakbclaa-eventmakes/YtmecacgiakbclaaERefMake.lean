/- What the document's Make makes: attribute by attribute, each at its place. -/
import Derived.Test.YtmecacgiakbclaaEMake
import Derived.Test.YtmecacgiakbclaaERight
import Derived.Deep.LoopGhost
namespace Go.Proofs.Ytmecacgiakbclaa
open Go.RowKit Go.Sort Ev
theorem take_lt {out : List At} {z : At} {k : Nat} (h : ∀ j (hj : j < out.length), j < k → lt out[j] z) (hk : ∀ (hj : k < out.length), lt out[k] z) : ∀ j (hj : j < out.length), j < k + 1 → lt out[j] z := by
  intro j hj hlt
  rcases Nat.lt_or_ge j k with h1 | h1
  · exact h j hj h1
  · obtain rfl : j = k := by omega
    exact hk hj
theorem not_once_of {es out : List At} {i : Nat} (hi : i < es.length) (hs : IsSort (es.take i) out) {a : At} (ha : a ∈ out) (hn : a.n = es[i].n) : ¬ Once es :=
  not_once hi (by rw [← hn]; exact List.mem_map_of_mem (hs.1.mem_iff.1 ha))
set_option maxRecDepth 100000 in
set_option maxHeartbeats 2000000 in
theorem refMake_at (A : Option Addr) (es : List At) (n c : Nat) (hn : es.length = n) (hm : n ≤ maxLen) (hb : ∀ a ∈ es, a.n.length ≤ maxLen ∧ a.t.length ≤ maxLen) (w : World) (hr : RdA w A es) :
    Calls Try.prog 11 #[.slice A n c] w (Makes w es) := by
  have HN := Lib.hid hn
  rw [maxLen_num] at hm
  simp only [maxLen_num] at hb
  clear hn
  by_cases h24 : n ≤ 24
  · have q24 : decide ((24 : Int) < (n : Int)) = false := by simp; omega
    go_enter Try.func11, Try.ntmps11
    go_wp2_with fail
    clear q24
    go_loopw [4] (fun i wr => ∃ k : Nat, k ≤ n ∧ i = .int .i64 (k : Int) ∧ Hid (Grown w wr) ∧ Hid (∀ a ∈ es.take k, ok a = true)) (fun i _ => n - (intOf i).toNat)
    case atStart => exact ⟨0, by omega, rfl, Grown.refl w, by show ∀ _, _; simp⟩
    case round =>
      obtain ⟨k, hk, rfl, HG, HA⟩ := hrel
      by_cases hlt : k < n
      · have hk' : k < es.length := by rw [HN.out]; exact hlt
        obtain ⟨g, off, rfl, hg, hC⟩ := (hr.below HG.out.below).at_ hk'
        have hmem := List.getElem_mem hk'
        obtain ⟨b1, b2⟩ := hb _ hmem
        have HT : Hid (es.take (k + 1) = es.take k ++ [es[k]]) := List.take_succ_eq_append_getElem hk'
        have HM := Lib.hid hmem
        generalize es[k] = z at *
        clear hmem hb hr
        obtain ⟨zn, zk, zi, zt⟩ := z
        obtain ⟨c0, c1, c2, c3⟩ := hC
        go_wp2_with fail
        refine (one_at zn zk zi zt _ b1 b2).mono ?_
        rintro e w1 ⟨rfl, hgr⟩
        have HG3 := Lib.hid (HG.out.trans hgr)
        clear c0 c1 c2 c3 hg HG hgr
        cases hok : ok ⟨zn, zk, zi, zt⟩ with
        | false =>
          have HF : Hid (Made es 1 []) := made_bad (by rw [HN.out]; exact h24) ⟨_, HM.out, hok⟩
          clear hok
          go_wp2_with fail
          go_ret2
          exact makes_none HF.out HG3.out.below
        | true =>
          have HA2 : Hid (∀ a ∈ es.take (k + 1), ok a = true) := by
            show ∀ _, _
            rw [HT.out]
            intro a ha
            rcases List.mem_append.1 ha with ha | ha
            · exact HA.out a ha
            · simp at ha; subst ha; exact hok
          clear hok HA HT HM
          go_wp2_with fail
          go_roundw
          case rel => exact ⟨k + 1, by omega, by go_num, HG3, HA2⟩
          case measure => simp [intOf]; omega
      · have HA2 : Hid (∀ a ∈ es, ok a = true) := by
          have h := HA.out
          rwa [List.take_of_length_le (by rw [HN.out]; omega)] at h
        have HB0 := Lib.hid HG.out.below
        have HR := Lib.hid hr
        have HBD := Lib.hid hb
        clear HA HG hr hb
        go_wp2_with fail
        go_loopg [6, 7] n (fun g o i wx => ∃ (k : Nat) (out : List At), k + g = n ∧ i = .int .i64 (k : Int) ∧ Hid (OwnA wx w.heap.size o out) ∧ Hid (IsSort (es.take k) out) ∧ Hid (Below w.heap.size w wx))
        case atStart => exact ⟨0, [], by omega, rfl, OwnA.none_ _ _, ⟨by simp, .nil⟩, HB0⟩
        case round =>
          obtain ⟨i, out, hig, rfl, HO, HS, HB⟩ := hrel
          clear HB0
          have hlen : out.length = i := by rw [HS.out.length, List.length_take, HN.out]; omega
          obtain ⟨B, cc, rfl, hcc, hro⟩ := HO.out.rd
          have HO2 : Hid (OwnA wr w.heap.size (.slice B i cc) out) := by
            show OwnA _ _ _ _
            rw [← hlen]; exact HO.out
          rw [hlen] at hcc ⊢
          have HLEN := Lib.hid hlen
          clear hlen HO
          cases gk with
          | zero =>
            obtain rfl : i = n := by omega
            have HSo : Hid (IsSort es out) := by
              have h := HS.out
              rwa [List.take_of_length_le (by rw [HN.out]; omega)] at h
            go_wp2_with fail
            go_ret2
            exact ⟨_, 0, out, rfl, made_good (by rw [HN.out]; exact h24) HA2.out HSo.out, HO2.out, HB.out⟩
          | succ gq =>
            have hlt2 : i < n := by omega
            have hi' : i < es.length := by rw [HN.out]; exact hlt2
            obtain ⟨g, off, rfl, hg, hC⟩ := (HR.out.below HB.out).at_ hi'
            have hbz := (HBD.out _ (List.getElem_mem hi')).1
            obtain ⟨z, hz⟩ : ∃ z, es[i] = z := ⟨_, rfl⟩
            have HE := Lib.hid hz
            rw [hz] at hC hbz
            clear hz HO2
            obtain ⟨zn, zk, zi, zt⟩ := z
            have HROUT := Lib.hid hro
            have HCZ := Lib.hid hC
            clear hro hC
            have hi1 : (i : Int) < (n : Int) := by omega
            obtain ⟨wo, rfl⟩ : ∃ wo : World, wo = wr := ⟨_, rfl⟩
            go_wp2_with fail
            go_loopg [8] i (fun g2 kv wy => ∃ k : Nat, k + g2 = i ∧ kv = .int .i64 (k : Int) ∧ Hid (Grown wo wy) ∧ Hid (∀ j (hj : j < out.length), j < k → lt out[j] ⟨zn, zk, zi, zt⟩))
            case atStart => exact ⟨0, by omega, rfl, Grown.refl _, fun j hj h => absurd h (by omega)⟩
            case round =>
              obtain ⟨k2, hkg, rfl, HG, HL⟩ := hrel
              have hro1 := HROUT.out.below HG.out.below
              have hC1 := HCZ.out.below HG.out.below hg
              have hg1 : g < wr.heap.size := Nat.lt_of_lt_of_le hg HG.out.below.size
              have HB1 := Lib.hid (below_next HB.out (Nat.le_refl _) HG.out.below)
              cases gk with
              | zero =>
                obtain rfl : k2 = i := by omega
                go_wp2_with fail
                (refine hq_region mixedT (by kernel_rfl) ?_; (repeat (refine hq_step (fun K hK => ?_); go_simp; first | (refine hK _ ?_; clear hK K) | (apply Exists.intro; refine ⟨fun _ => ?_, hK _ ?_⟩; (fail); clear hK K))); refine hq_nil ?_; intro _ hw'; obtain ⟨⟨nq, osq⟩, hw''⟩ := hw'; subst hw'')
                have hgr1 : Grown wr (grow (wr.drewN nq) osq) := (Grown.refl _).more _ _
                generalize grow (wr.drewN nq) osq = w2 at *
                go_wp2_with fail
                (refine hq_region mixedT (by kernel_rfl) ?_; (repeat (refine hq_step (fun K hK => ?_); go_simp; first | (refine hK _ ?_; clear hK K) | (apply Exists.intro; refine ⟨fun _ => ?_, hK _ ?_⟩; (fail); clear hK K))); refine hq_nil ?_; intro _ hw'; obtain ⟨⟨nq, osq⟩, hw''⟩ := hw'; subst hw'')
                have hgr2 : Grown wr (grow (w2.drewN nq) osq) := hgr1.more _ _
                generalize grow (w2.drewN nq) osq = w3 at *
                have hro3 := hro1.below hgr2.below
                have hC3 := hC1.below hgr2.below hg1
                have hg3 : g < w3.heap.size := Nat.lt_of_lt_of_le hg1 hgr2.below.size
                have HB3 := Lib.hid (below_next HB1.out (Nat.le_refl _) hgr2.below)
                clear hro1 hC1 hg1 HB1 hgr1 hgr2 HG
                have hhd := run_headA B k2 cc k2 (by omega) hcc
                obtain ⟨A', hct, hrc⟩ := run_cutA (k := k2) hro3 HLEN.out (by omega) hcc
                simp only [Nat.sub_self] at hct
                have hT1 := (hro3.take k2).below ((Below.refl _ _).alloc (Nat.le_refl _) (.cells #[] 32))
                have HL1 : Hid ((out.take k2).length = k2) := by show _ = _; rw [List.length_take, HLEN.out]; omega
                have HL3 : Hid ((out.drop k2).length = 0) := by show _ = _; rw [List.length_drop, HLEN.out, Nat.sub_self]
                have HS3 : Hid (IsSort (es.take (k2 + 1)) (out.take k2 ++ [⟨zn, zk, zi, zt⟩] ++ out.drop k2)) := by
                  show IsSort _ _
                  rw [List.take_succ_eq_append_getElem hi', HE.out]
                  exact insert_sort HS.out k2 (by rw [HLEN.out]; omega) (fun j hj => HL.out j (by rw [HLEN.out]; omega) hj) (fun hj => absurd hj (by rw [HLEN.out]; omega))
                have HRC := Lib.hid hrc
                have HC3 := Lib.hid hC3
                clear hro3 hC3 hrc
                go_wp2_with (first
                  | (at_builtin; refine wpList_append_a (by rfl) (.tmp 69) (.tmp 72) rfl w3.heap.size _ [] (by rfl) (OwnA.empty w3 w3.heap.size (Nat.le_refl _)) B (out.take k2) k2 cc (by rfl) hT1 HL1.out (by simp; omega) (by simp) ?_; intro v1 w4 o1 b1 _ _; rw [List.nil_append] at o1; have hb4 := b1 w3 ((Below.refl _ _).alloc (Nat.le_refl _) _); obtain ⟨e0, e1, e2, e3⟩ := HC3.out.below hb4 hg3; clear b1 hT1)
                  | (at_builtin; refine wpList_append_a (by rfl) (.tmp 74) (.tmp 79) rfl w3.heap.size v1 (out.take k2) (by rfl) (o1.below ((Below.refl _ _).alloc (Nat.le_refl _) _)) _ [⟨zn, zk, zi, zt⟩] 1 1 (by rfl) (rda_one w4 ⟨zn, zk, zi, zt⟩ 32) rfl (by rw [HL1.out]; omega) (by simp; have := hb4.size; omega) ?_; intro v2 w5 o2 b2 _ _; have hb5 := b2 w3 (hb4.alloc hb4.size _); clear b2 e0 e1 e2 e3 o1 hb4)
                  | (at_builtin; refine wpList_append_a (by rfl) (.tmp 81) (.tmp 84) rfl w3.heap.size v2 (out.take k2 ++ [⟨zn, zk, zi, zt⟩]) (by rfl) o2 A' (out.drop k2) 0 (cc - k2) (by rfl) (HRC.out.below hb5) HL3.out (by rw [List.length_append, HL1.out]; simp; omega) hb5.size ?_; intro v3 w6 o3 b3 _ _; have hb6 := b3 w3 hb5; clear b3 o2 hb5))
                go_roundg gq
                case measure => omega
                case rel => exact ⟨k2 + 1, _, by omega, by go_num, o3.less HB3.out.size, HS3, below_next HB3.out (Nat.le_refl _) hb6⟩
              | succ gin =>
                obtain ⟨gb, ob, rfl, hgb, hCp⟩ := hro1.at_ (k := k2) (by rw [HLEN.out]; omega)
                have hk2 : k2 < out.length := by rw [HLEN.out]; omega
                have hmemp := List.getElem_mem hk2
                have hbp := (HBD.out _ (List.mem_of_mem_take (HS.out.1.mem_iff.1 hmemp))).1
                have HMP := Lib.hid hmemp
                obtain ⟨p, hp⟩ : ∃ p, out[k2] = p := ⟨_, rfl⟩
                have HP := Lib.hid hp
                rw [hp] at hCp hbp
                clear hp hmemp
                obtain ⟨pn, pk, pi, pt⟩ := p
                have f0 := fun n os => (hCp.grow4 hgb n os).1
                have z0 := fun n os => (hC1.grow4 hg1 n os).1
                simp only at f0 z0
                have hk3 : (k2 : Int) < (i : Int) := by omega
                have hcall : ∀ n' os', Calls Try.prog 23 #[.string ⟨pn.toArray⟩, .string ⟨zn.toArray⟩] (grow (wr.drewN n') os') fun e w' => e = .returned (.int .i64 (Vals.cmpT pn zn)) ∧ ∃ q os'', w' = grow ((grow (wr.drewN n') os').drewN q) os'' := fun n' os' => text_gr pn zn hbp hbz _
                cases hl : Op.bytesLess pn zn with
                | true =>
                  have HL2 : Hid (∀ j (hj : j < out.length), j < k2 + 1 → lt out[j] ⟨zn, zk, zi, zt⟩) := take_lt HL.out fun hj => by rw [HP.out]; exact hl
                  have hd : decide (Vals.cmpT pn zn < 0) = true := decide_eq_true ((cmpT_less pn zn).2 hl)
                  generalize Vals.cmpT pn zn = ct at *
                  clear hl HL hro1 hC1 hCp
                  go_wp2_with fail
                  (refine hq_region mixedT (by kernel_rfl) ?_; (repeat (refine hq_step (fun K hK => ?_); go_simp; first | (refine hK _ ?_; clear hK K) | (apply Exists.intro; refine ⟨fun _ => ?_, hK _ ?_⟩; (go_at_call 23; refine Calls.grown_of (hcall _ _)); clear hK K))); refine hq_nil ?_; intro _ hw'; obtain ⟨⟨nq, osq⟩, hw''⟩ := hw'; subst hw'')
                  go_wp2_with fail
                  go_roundg gin
                  case measure => omega
                  case rel => exact ⟨k2 + 1, by omega, by go_num, HG.out.more _ _, HL2⟩
                | false =>
                  have hd : decide (Vals.cmpT pn zn < 0) = false := decide_eq_false fun h => by rw [(cmpT_less pn zn).1 h] at hl; cases hl
                  generalize Vals.cmpT pn zn = ct at *
                  have HL2 := Lib.hid hl
                  clear hl
                  go_wp2_with fail
                  (refine hq_region mixedT (by kernel_rfl) ?_; (repeat (refine hq_step (fun K hK => ?_); go_simp; first | (refine hK _ ?_; clear hK K) | (apply Exists.intro; refine ⟨fun _ => ?_, hK _ ?_⟩; (go_at_call 23; refine Calls.grown_of (hcall _ _)); clear hK K))); refine hq_nil ?_; intro _ hw'; obtain ⟨⟨nq, osq⟩, hw''⟩ := hw'; subst hw'')
                  have hgr1 : Grown wr (grow (wr.drewN nq) osq) := (Grown.refl _).more _ _
                  clear hcall hd f0 z0
                  generalize grow (wr.drewN nq) osq = w2 at *
                  have f0 := fun n os => ((hCp.below hgr1.below hgb).grow4 (Nat.lt_of_lt_of_le hgb hgr1.below.size) n os).1
                  have z0 := fun n os => ((hC1.below hgr1.below hg1).grow4 (Nat.lt_of_lt_of_le hg1 hgr1.below.size) n os).1
                  simp only at f0 z0
                  by_cases he : pn = zn
                  · have hd : (pn == zn) = true := by simpa using he
                    have HF : Hid (Made es 8 []) := made_twice (by rw [HN.out]; exact h24) HA2.out (not_once_of hi' HS.out HMP.out (by rw [HP.out, HE.out]; exact he))
                    clear he
                    go_wp2_with fail
                    (refine hq_region mixedT (by kernel_rfl) ?_; (repeat (refine hq_step (fun K hK => ?_); go_simp; first | (refine hK _ ?_; clear hK K) | (apply Exists.intro; refine ⟨fun _ => ?_, hK _ ?_⟩; (fail); clear hK K))); refine hq_nil ?_; intro _ hw'; obtain ⟨⟨nq, osq⟩, hw''⟩ := hw'; subst hw'')
                    have hgr2 : Grown wr (grow (w2.drewN nq) osq) := hgr1.more _ _
                    generalize grow (w2.drewN nq) osq = w3 at *
                    go_wp2_with fail
                    go_ret2
                    exact makes_none HF.out (below_next HB1.out (Nat.le_refl _) hgr2.below)
                  · have hd : (pn == zn) = false := by simpa using he
                    have HGT : Hid (lt ⟨zn, zk, zi, zt⟩ ⟨pn, pk, pi, pt⟩) := by
                      show lt _ _
                      by_cases h5 : lt ⟨zn, zk, zi, zt⟩ ⟨pn, pk, pi, pt⟩
                      · exact h5
                      · exact absurd (lt_tri (a := ⟨pn, pk, pi, pt⟩) (b := ⟨zn, zk, zi, zt⟩) (fun h => by unfold lt at h; rw [HL2.out] at h; cases h) h5) he
                    clear he
                    go_wp2_with fail
                    (refine hq_region mixedT (by kernel_rfl) ?_; (repeat (refine hq_step (fun K hK => ?_); go_simp; first | (refine hK _ ?_; clear hK K) | (apply Exists.intro; refine ⟨fun _ => ?_, hK _ ?_⟩; (fail); clear hK K))); refine hq_nil ?_; intro _ hw'; obtain ⟨⟨nq, osq⟩, hw''⟩ := hw'; subst hw'')
                    have hgr2 : Grown wr (grow (w2.drewN nq) osq) := hgr1.more _ _
                    generalize grow (w2.drewN nq) osq = w3 at *
                    have hro3 := hro1.below hgr2.below
                    have hC3 := hC1.below hgr2.below hg1
                    have hg3 : g < w3.heap.size := Nat.lt_of_lt_of_le hg1 hgr2.below.size
                    have HB3 := Lib.hid (below_next HB1.out (Nat.le_refl _) hgr2.below)
                    clear hro1 hC1 hg1 HB1 hgr1 hgr2 HG f0 z0 hd hCp hgb
                    have hhd := run_headA (some ⟨gb, ob, none⟩) i cc k2 (by omega) hcc
                    obtain ⟨A', hct, hrc⟩ := run_cutA (k := k2) hro3 HLEN.out (by omega) hcc
                    have hT1 := (hro3.take k2).below ((Below.refl _ _).alloc (Nat.le_refl _) (.cells #[] 32))
                    have HL1 : Hid ((out.take k2).length = k2) := by show _ = _; rw [List.length_take, HLEN.out]; omega
                    have HL3 : Hid ((out.drop k2).length = i - k2) := by show _ = _; rw [List.length_drop, HLEN.out]
                    have HS3 : Hid (IsSort (es.take (i + 1)) (out.take k2 ++ [⟨zn, zk, zi, zt⟩] ++ out.drop k2)) := by
                      show IsSort _ _
                      rw [List.take_succ_eq_append_getElem hi', HE.out]
                      exact insert_sort HS.out k2 (by rw [HLEN.out]; omega) (fun j hj => HL.out j (by rw [HLEN.out]; omega) hj) (fun hj => by rw [HP.out]; exact HGT.out)
                    have HRC := Lib.hid hrc
                    have HC3 := Lib.hid hC3
                    clear hro3 hC3 hrc
                    go_wp2_with (first
                      | (at_builtin; refine wpList_append_a (by rfl) (.tmp 69) (.tmp 72) rfl w3.heap.size _ [] (by rfl) (OwnA.empty w3 w3.heap.size (Nat.le_refl _)) (some ⟨gb, ob, none⟩) (out.take k2) k2 cc (by rfl) hT1 HL1.out (by simp; omega) (by simp) ?_; intro v1 w4 o1 b1 _ _; rw [List.nil_append] at o1; have hb4 := b1 w3 ((Below.refl _ _).alloc (Nat.le_refl _) _); obtain ⟨e0, e1, e2, e3⟩ := HC3.out.below hb4 hg3; clear b1 hT1)
                      | (at_builtin; refine wpList_append_a (by rfl) (.tmp 74) (.tmp 79) rfl w3.heap.size v1 (out.take k2) (by rfl) (o1.below ((Below.refl _ _).alloc (Nat.le_refl _) _)) _ [⟨zn, zk, zi, zt⟩] 1 1 (by rfl) (rda_one w4 ⟨zn, zk, zi, zt⟩ 32) rfl (by rw [HL1.out]; omega) (by simp; have := hb4.size; omega) ?_; intro v2 w5 o2 b2 _ _; have hb5 := b2 w3 (hb4.alloc hb4.size _); clear b2 e0 e1 e2 e3 o1 hb4)
                      | (at_builtin; refine wpList_append_a (by rfl) (.tmp 81) (.tmp 84) rfl w3.heap.size v2 (out.take k2 ++ [⟨zn, zk, zi, zt⟩]) (by rfl) o2 A' (out.drop k2) (i - k2) (cc - k2) (by rfl) (HRC.out.below hb5) HL3.out (by rw [List.length_append, HL1.out]; simp; omega) hb5.size ?_; intro v3 w6 o3 b3 _ _; have hb6 := b3 w3 hb5; clear b3 o2 hb5))
                    go_roundg gq
                    case measure => omega
                    case rel => exact ⟨i + 1, _, by omega, by go_num, o3.less HB3.out.size, HS3, below_next HB3.out (Nat.le_refl _) hb6⟩
  · have HF : Hid (Made es 4 []) := made_long (by rw [HN.out]; omega)
    have q24 : decide ((24 : Int) < (n : Int)) = true := by simp; omega
    go_enter Try.func11, Try.ntmps11
    go_wp2_with fail
    go_ret2
    exact makes_none HF.out (Below.refl _ _)
end Go.Proofs.Ytmecacgiakbclaa
