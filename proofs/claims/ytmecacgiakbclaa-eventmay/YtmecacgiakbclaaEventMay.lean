/- EventMay holds at this commit: an event is made of attributes just if there are at most 24 of them, each right, no two of one name; and what is not made is no right event: any attributes. No condition. -/
import Derived.Test.YtmecacgiakbclaaESml
import Derived.Deep.LoopGhost
namespace Ev
/-- What has been gone through so far. -/
def MayTo (es : List At) (i : Nat) : Prop := es.length ≤ 24 ∧ (∀ a ∈ es.take i, ok a = true) ∧ Once (es.take i)
def MayAt (es : List At) (i k : Nat) : Prop := es.length ≤ 24 ∧ (∀ a ∈ es.take (i + 1), ok a = true) ∧ Once (es.take i) ∧ ∀ j (hj : j < es.length) (hi : i < es.length), j < k → es[j].n ≠ es[i].n
theorem may_zero (es : List At) : MayTo es 0 ↔ es.length ≤ 24 := by simp [MayTo, Once]
theorem may_one {es : List At} {i : Nat} (hi : i < es.length) : MayAt es i 0 ↔ MayTo es i ∧ ok es[i] = true := by
  unfold MayAt MayTo
  rw [List.take_succ_eq_append_getElem hi]
  constructor
  · rintro ⟨h1, h2, h3, _⟩
    exact ⟨⟨h1, fun a ha => h2 a (List.mem_append_left _ ha), h3⟩, h2 _ (List.mem_append_right _ (List.mem_singleton.2 rfl))⟩
  · rintro ⟨⟨h1, h2, h3⟩, h4⟩
    refine ⟨h1, fun a ha => ?_, h3, fun _ _ _ h => absurd h (by omega)⟩
    rcases List.mem_append.1 ha with ha | ha
    · exact h2 a ha
    · simp at ha; subst ha; exact h4
theorem may_step {es : List At} {i k : Nat} (hi : i < es.length) (hk : k < es.length) : MayAt es i (k + 1) ↔ MayAt es i k ∧ es[k].n ≠ es[i].n := by
  unfold MayAt
  constructor
  · rintro ⟨h1, h2, h3, h4⟩
    exact ⟨⟨h1, h2, h3, fun j hj hi hlt => h4 j hj hi (by omega)⟩, h4 k hk hi (by omega)⟩
  · rintro ⟨⟨h1, h2, h3, h4⟩, h5⟩
    refine ⟨h1, h2, h3, fun j hj hi hlt => ?_⟩
    rcases Nat.lt_or_ge j k with h6 | h6
    · exact h4 j hj hi h6
    · obtain rfl : j = k := by omega
      exact h5
theorem may_end {es : List At} {i : Nat} (hi : i < es.length) : MayAt es i i ↔ MayTo es (i + 1) := by
  unfold MayAt MayTo Once
  rw [List.take_succ_eq_append_getElem hi, List.map_append, List.nodup_append]
  constructor
  · rintro ⟨h1, h2, h3, h4⟩
    refine ⟨h1, h2, h3, by simp, fun a ha b hb => ?_⟩
    simp at hb
    subst hb
    obtain ⟨x, hx, rfl⟩ := List.mem_map.1 ha
    obtain ⟨j, hj, rfl⟩ := List.getElem_of_mem hx
    rw [List.getElem_take]
    simp at hj
    exact h4 j (by omega) hi (by omega)
  · rintro ⟨h1, h2, h3, _, h5⟩
    refine ⟨h1, h2, h3, fun j hj hi' hlt => ?_⟩
    refine h5 _ (List.mem_map_of_mem (a := es[j]) ?_) _ (by simp)
    rw [List.mem_take_iff_getElem]
    exact ⟨j, by omega, rfl⟩
theorem may_all (es : List At) (n : Nat) (hn : es.length = n) : MayTo es n ↔ mkE es = 0 := by
  rw [mkE_zero]
  unfold MayTo
  rw [List.take_of_length_le (by omega)]
end Ev
namespace Go.Proofs.Ytmecacgiakbclaa
open Go.RowKit Go.Sort Ev Go.ChangeShapes Go.WideShapes Go.Deep
theorem few_is (A : Option Addr) (es : List At) (n c : Nat) (hn : es.length = n) (hm : n ≤ maxLen) (hb : ∀ a ∈ es, a.n.length ≤ maxLen ∧ a.t.length ≤ maxLen) (b : Bool) (hF : decide (Few es) = b) (w : World) (hr : RdA w A es) :
    Calls Try.prog 9 #[.slice A n c] w fun e w' => e = .returned (.bool b) ∧ w' = w :=
  (few_at A es n c hn hm hb w hr).mono fun _ _ ⟨h, k⟩ => ⟨by rw [h, hF], k⟩
theorem iff_no {b : Bool} {P : Prop} (h : b = true ↔ P) (hb : b = false) : ¬ P := fun hp => by rw [h.2 hp] at hb; cases hb
theorem not_right_of {es : List At} (h : mkE es ≠ 0) : decide (Right es) = false := decide_eq_false fun hR => h (right_made hR).1.symm
set_option maxRecDepth 100000 in
set_option maxHeartbeats 4000000 in
theorem may_in (w : World) (A : Option Addr) (es : List At) (n c : Nat) (hl : es.length = n) (hc : n ≤ c) (hm : c ≤ maxLen) (rd : RdA w A es) (hw : ∀ a ∈ es, a.n.length ≤ maxLen ∧ a.t.length ≤ maxLen) (hF : Few es) :
    Calls Try.prog 7 #[.slice A n c] w fun e w' => e = .returned (.bool true) ∧ Below w.heap.size w w' := by
  have HN := Lib.hid hl
  have h40 : n ≤ 40 := by have := hF.1; omega
  have hnm : Hid (n ≤ maxLen) := Nat.le_trans hc hm
  have HW := Lib.hid hw
  have HF := Lib.hid (decide_eq_true hF)
  have HSH := Lib.hid hF.2
  have HRD := Lib.hid rd
  clear hl hc hm hw hF rd
  go_enter Try.func7, Try.ntmps7
  go_wp2_with fail
  refine (small_any w).mono ?_
  rintro e w1 ⟨rfl, hb1⟩
  go_wp2_with fail
  refine (few_is A es n c HN.out hnm.out HW.out true HF.out w1 (HRD.out.below hb1)).mono ?_
  rintro e w2 ⟨rfl, rfl⟩
  have HB1 := Lib.hid hb1
  clear hb1 HF
  obtain ⟨b0, hb0⟩ : ∃ b : Bool, decide ((n : Int) ≤ 24) = b := ⟨_, rfl⟩
  have HM0 : Hid (b0 = true ↔ MayTo es 0) := by
    show _ ↔ _
    rw [may_zero, HN.out, ← hb0, decide_eq_true_eq]; omega
  go_wp2_with fail
  clear hb0
  go_loopg [5, 6] n (fun g m iv wx => ∃ (i : Nat) (b : Bool), i + g = n ∧ iv = .int .i64 (i : Int) ∧ m = .bool b ∧ Hid (Below w.heap.size w wx) ∧ Hid (b = true ↔ MayTo es i))
  case atStart => exact ⟨0, b0, by omega, rfl, rfl, HB1, HM0⟩
  case round =>
    obtain ⟨i, b, hig, rfl, rfl, HB, HM⟩ := hrel
    clear HB1 HM0
    cases gk with
    | zero =>
      obtain rfl : i = n := by omega
      have HALL := Lib.hid (HM.out.trans (may_all es i HN.out))
      have hrr := HRD.out.below HB.out
      clear HM
      go_wp2_with fail
      refine (make_at A es i c HN.out hnm.out HW.out wr hrr).mono ?_
      rintro e w3 ⟨v, cd, out, rfl, hM, ho, hb3⟩
      have HCD := Lib.hid hM.1
      have hrr3 := hrr.below hb3
      have hbw := below_next HB.out (Nat.le_refl _) hb3
      clear hM ho hb3 hrr
      cases b with
      | true =>
        obtain rfl : cd = 0 := HCD.out.trans (HALL.out.1 rfl)
        clear HCD HALL
        go_wp2_with fail
        go_ret
        exact ⟨rfl, hbw⟩
      | false =>
        have hne : mkE es ≠ 0 := iff_no HALL.out rfl
        have hcd : (cd == 0) = false := by rw [HCD.out]; simpa using hne
        have HR := Lib.hid (not_right_of hne)
        clear hne HCD HALL
        go_wp2_with fail
        refine (right_is A es i c HN.out hnm.out HW.out false HR.out w3 hrr3).mono ?_
        rintro e w4 ⟨rfl, hb4⟩
        go_wp2_with fail
        go_ret
        exact ⟨rfl, below_next hbw (Nat.le_refl _) hb4⟩
    | succ gq =>
      have hi' : i < es.length := by rw [HN.out]; omega
      obtain ⟨g, off, rfl, hg, hC⟩ := (HRD.out.below HB.out).at_ hi'
      obtain ⟨s1, s2⟩ := HSH.out _ (List.getElem_mem hi')
      have HONE := Lib.hid (may_one hi')
      obtain ⟨z, hz⟩ : ∃ z, es[i] = z := ⟨_, rfl⟩
      have HE := Lib.hid hz
      rw [hz] at hC s1 s2
      clear hz
      obtain ⟨zn, zk, zi, zt⟩ := z
      have HCZ := Lib.hid hC
      obtain ⟨c0, c1, c2, c3⟩ := hC
      simp only at s1 s2 c0 c1 c2 c3
      have hi1 : (i : Int) < (n : Int) := by omega
      have HOK : Hid (ok ⟨zn, zk, zi, zt⟩ = (decide (1 ≤ zn.length) && decide (zn.length ≤ 16) && Vals.right zk zi zt)) := rfl
      have HAT : ∀ r : Bool, Hid (r = (b && ok ⟨zn, zk, zi, zt⟩)) → Hid (r = true ↔ MayAt es i 0) := fun r hr => by
        show _ ↔ _
        rw [HONE.out, ← HM.out, HE.out, hr.out, Bool.and_eq_true]
      clear HONE
      cases b with
      | false =>
        have HAI := HAT false (show false = (false && _) from rfl)
        have HBI := HB
        clear HAT HOK
        go_wp2_with fail
        obtain ⟨wo, rfl⟩ : ∃ wo : World, wo = wr := ⟨_, rfl⟩
        go_loopg [5, 7] i (fun g2 m kv wy => ∃ (k : Nat) (b : Bool), k + g2 = i ∧ kv = .int .i64 (k : Int) ∧ m = .bool b ∧ Hid (Below w.heap.size w wy) ∧ Hid (b = true ↔ MayAt es i k))
        case atStart => exact ⟨0, _, by omega, rfl, rfl, HBI, HAI⟩
        case round =>
          obtain ⟨k, b2, hkg, rfl, rfl, HB2, HM2⟩ := hrel
          clear HBI HAI
          cases gk with
          | zero =>
            obtain rfl : k = i := by omega
            have HM3 : Hid (b2 = true ↔ MayTo es (k + 1)) := HM2.out.trans (may_end hi')
            clear HM2
            go_wp2_with fail
            go_roundg gq
            case measure => omega
            case rel => exact ⟨k + 1, b2, by omega, by go_num, rfl, HB2, HM3⟩
          | succ gin =>
            have hk' : k < es.length := by rw [HN.out]; omega
            have HST := Lib.hid (may_step hi' hk')
            obtain ⟨gp, op, hap, hgp, hCp⟩ := (HRD.out.below HB2.out).at_ hk'
            cases hap
            have hCz := (HRD.out.below HB2.out).at_ hi'
            obtain ⟨gp, op, hap, _, hCz⟩ := hCz
            cases hap
            obtain ⟨p, hp⟩ : ∃ p, es[k] = p := ⟨_, rfl⟩
            rw [HE.out] at hCz
            rw [hp] at hCp
            have HP := Lib.hid hp
            clear hp
            obtain ⟨pn, pk, pi, pt⟩ := p
            have f0 := fun n os => (hCp.grow4 hgp n os).1
            have z0 := fun n os => (hCz.grow4 hgp n os).1
            simp only at f0 z0
            have hk1 : (k : Int) < (i : Int) := by omega
            have hk2 : (k : Int) < (n : Int) := by omega
            have hk3 : k < n := by omega
            clear hCp hCz
            cases b2 with
            | false =>
              have HM3 : Hid (false = true ↔ MayAt es i (k + 1)) := by
                show _ ↔ _
                rw [HST.out, ← HM2.out]; simp
              clear HM2 HST
              go_wp2_with fail
              (refine hq_region mixedT (by kernel_rfl) ?_; (repeat (refine hq_step (fun K hK => ?_); go_simp; first | (refine hK _ ?_; clear hK K) | (apply Exists.intro; refine ⟨fun _ => ?_, hK _ ?_⟩; (fail); clear hK K))); refine hq_nil ?_; intro _ hw'; obtain ⟨⟨nq, osq⟩, hw''⟩ := hw'; subst hw'')
              go_wp2_with fail
              go_roundg gin
              case measure => omega
              case rel => exact ⟨k + 1, false, by omega, by go_num, rfl, below_next HB2.out (Nat.le_refl _) ((Grown.refl _).more _ _).below, HM3⟩
            | true =>
              by_cases he : pn = zn
              · have hd : (pn == zn) = true := by simpa using he
                have HM3 : Hid (false = true ↔ MayAt es i (k + 1)) := by
                  show _ ↔ _
                  rw [HST.out, HP.out, HE.out]; simp [he]
                clear he HM2 HST
                go_wp2_with fail
                (refine hq_region mixedT (by kernel_rfl) ?_; (repeat (refine hq_step (fun K hK => ?_); go_simp; first | (refine hK _ ?_; clear hK K) | (apply Exists.intro; refine ⟨fun _ => ?_, hK _ ?_⟩; (fail); clear hK K))); refine hq_nil ?_; intro _ hw'; obtain ⟨⟨nq, osq⟩, hw''⟩ := hw'; subst hw'')
                go_wp2_with fail
                go_roundg gin
                case measure => omega
                case rel => exact ⟨k + 1, false, by omega, by go_num, rfl, below_next HB2.out (Nat.le_refl _) ((Grown.refl _).more _ _).below, HM3⟩
              · have hd : (pn == zn) = false := by simpa using he
                have HM3 : Hid (MayAt es i (k + 1)) := by
                  show MayAt _ _ _
                  rw [HST.out, HP.out, HE.out]
                  exact ⟨HM2.out.1 rfl, he⟩
                clear he HM2 HST
                go_wp2_with fail
                (refine hq_region mixedT (by kernel_rfl) ?_; (repeat (refine hq_step (fun K hK => ?_); go_simp; first | (refine hK _ ?_; clear hK K) | (apply Exists.intro; refine ⟨fun _ => ?_, hK _ ?_⟩; (fail); clear hK K))); refine hq_nil ?_; intro _ hw'; obtain ⟨⟨nq, osq⟩, hw''⟩ := hw'; subst hw'')
                go_wp2_with fail
                go_roundg gin
                case measure => omega
                case rel => exact ⟨k + 1, true, by omega, by go_num, rfl, below_next HB2.out (Nat.le_refl _) ((Grown.refl _).more _ _).below, ⟨fun _ => HM3.out, fun _ => rfl⟩⟩
      | true =>
        by_cases e1 : 1 ≤ zn.length
        · have d1 : decide ((1 : Int) ≤ (zn.length : Int)) = true := decide_eq_true (by omega)
          by_cases e2 : zn.length ≤ 16
          · have d2 : decide ((zn.length : Int) ≤ 16) = true := decide_eq_true (by omega)
            have HAI : Hid (Vals.right zk zi zt = true ↔ MayAt es i 0) := HAT _ (by show _ = _; rw [HOK.out]; simp [e1, e2])
            clear HAT HOK e1 e2
            go_wp2_with fail
            refine (right_gr zk zi zt wr (by omega)).mono ?_
            rintro e w5 ⟨rfl, hgr⟩
            have HBI := Lib.hid (below_next HB.out (Nat.le_refl _) hgr.below)
            clear hgr
            generalize Vals.right zk zi zt = rr at *
            go_wp2_with fail
            obtain ⟨wo, rfl⟩ : ∃ wo : World, wo = w5 := ⟨_, rfl⟩
            go_loopg [5, 7] i (fun g2 m kv wy => ∃ (k : Nat) (b : Bool), k + g2 = i ∧ kv = .int .i64 (k : Int) ∧ m = .bool b ∧ Hid (Below w.heap.size w wy) ∧ Hid (b = true ↔ MayAt es i k))
            case atStart => exact ⟨0, _, by omega, rfl, rfl, HBI, HAI⟩
            case round =>
              obtain ⟨k, b2, hkg, rfl, rfl, HB2, HM2⟩ := hrel
              clear HBI HAI
              cases gk with
              | zero =>
                obtain rfl : k = i := by omega
                have HM3 : Hid (b2 = true ↔ MayTo es (k + 1)) := HM2.out.trans (may_end hi')
                clear HM2
                go_wp2_with fail
                go_roundg gq
                case measure => omega
                case rel => exact ⟨k + 1, b2, by omega, by go_num, rfl, HB2, HM3⟩
              | succ gin =>
                have hk' : k < es.length := by rw [HN.out]; omega
                have HST := Lib.hid (may_step hi' hk')
                obtain ⟨gp, op, hap, hgp, hCp⟩ := (HRD.out.below HB2.out).at_ hk'
                cases hap
                have hCz := (HRD.out.below HB2.out).at_ hi'
                obtain ⟨gp, op, hap, _, hCz⟩ := hCz
                cases hap
                obtain ⟨p, hp⟩ : ∃ p, es[k] = p := ⟨_, rfl⟩
                rw [HE.out] at hCz
                rw [hp] at hCp
                have HP := Lib.hid hp
                clear hp
                obtain ⟨pn, pk, pi, pt⟩ := p
                have f0 := fun n os => (hCp.grow4 hgp n os).1
                have z0 := fun n os => (hCz.grow4 hgp n os).1
                simp only at f0 z0
                have hk1 : (k : Int) < (i : Int) := by omega
                have hk2 : (k : Int) < (n : Int) := by omega
                have hk3 : k < n := by omega
                clear hCp hCz
                cases b2 with
                | false =>
                  have HM3 : Hid (false = true ↔ MayAt es i (k + 1)) := by
                    show _ ↔ _
                    rw [HST.out, ← HM2.out]; simp
                  clear HM2 HST
                  go_wp2_with fail
                  (refine hq_region mixedT (by kernel_rfl) ?_; (repeat (refine hq_step (fun K hK => ?_); go_simp; first | (refine hK _ ?_; clear hK K) | (apply Exists.intro; refine ⟨fun _ => ?_, hK _ ?_⟩; (fail); clear hK K))); refine hq_nil ?_; intro _ hw'; obtain ⟨⟨nq, osq⟩, hw''⟩ := hw'; subst hw'')
                  go_wp2_with fail
                  go_roundg gin
                  case measure => omega
                  case rel => exact ⟨k + 1, false, by omega, by go_num, rfl, below_next HB2.out (Nat.le_refl _) ((Grown.refl _).more _ _).below, HM3⟩
                | true =>
                  by_cases he : pn = zn
                  · have hd : (pn == zn) = true := by simpa using he
                    have HM3 : Hid (false = true ↔ MayAt es i (k + 1)) := by
                      show _ ↔ _
                      rw [HST.out, HP.out, HE.out]; simp [he]
                    clear he HM2 HST
                    go_wp2_with fail
                    (refine hq_region mixedT (by kernel_rfl) ?_; (repeat (refine hq_step (fun K hK => ?_); go_simp; first | (refine hK _ ?_; clear hK K) | (apply Exists.intro; refine ⟨fun _ => ?_, hK _ ?_⟩; (fail); clear hK K))); refine hq_nil ?_; intro _ hw'; obtain ⟨⟨nq, osq⟩, hw''⟩ := hw'; subst hw'')
                    go_wp2_with fail
                    go_roundg gin
                    case measure => omega
                    case rel => exact ⟨k + 1, false, by omega, by go_num, rfl, below_next HB2.out (Nat.le_refl _) ((Grown.refl _).more _ _).below, HM3⟩
                  · have hd : (pn == zn) = false := by simpa using he
                    have HM3 : Hid (MayAt es i (k + 1)) := by
                      show MayAt _ _ _
                      rw [HST.out, HP.out, HE.out]
                      exact ⟨HM2.out.1 rfl, he⟩
                    clear he HM2 HST
                    go_wp2_with fail
                    (refine hq_region mixedT (by kernel_rfl) ?_; (repeat (refine hq_step (fun K hK => ?_); go_simp; first | (refine hK _ ?_; clear hK K) | (apply Exists.intro; refine ⟨fun _ => ?_, hK _ ?_⟩; (fail); clear hK K))); refine hq_nil ?_; intro _ hw'; obtain ⟨⟨nq, osq⟩, hw''⟩ := hw'; subst hw'')
                    go_wp2_with fail
                    go_roundg gin
                    case measure => omega
                    case rel => exact ⟨k + 1, true, by omega, by go_num, rfl, below_next HB2.out (Nat.le_refl _) ((Grown.refl _).more _ _).below, ⟨fun _ => HM3.out, fun _ => rfl⟩⟩
          · have d2 : decide ((zn.length : Int) ≤ 16) = false := decide_eq_false (by omega)
            have HAI : Hid (false = true ↔ MayAt es i 0) := HAT _ (by show _ = _; rw [HOK.out]; simp [e2])
            have HBI := HB
            clear HAT HOK e1 e2
            go_wp2_with fail
            obtain ⟨wo, rfl⟩ : ∃ wo : World, wo = wr := ⟨_, rfl⟩
            go_loopg [5, 7] i (fun g2 m kv wy => ∃ (k : Nat) (b : Bool), k + g2 = i ∧ kv = .int .i64 (k : Int) ∧ m = .bool b ∧ Hid (Below w.heap.size w wy) ∧ Hid (b = true ↔ MayAt es i k))
            case atStart => exact ⟨0, _, by omega, rfl, rfl, HBI, HAI⟩
            case round =>
              obtain ⟨k, b2, hkg, rfl, rfl, HB2, HM2⟩ := hrel
              clear HBI HAI
              cases gk with
              | zero =>
                obtain rfl : k = i := by omega
                have HM3 : Hid (b2 = true ↔ MayTo es (k + 1)) := HM2.out.trans (may_end hi')
                clear HM2
                go_wp2_with fail
                go_roundg gq
                case measure => omega
                case rel => exact ⟨k + 1, b2, by omega, by go_num, rfl, HB2, HM3⟩
              | succ gin =>
                have hk' : k < es.length := by rw [HN.out]; omega
                have HST := Lib.hid (may_step hi' hk')
                obtain ⟨gp, op, hap, hgp, hCp⟩ := (HRD.out.below HB2.out).at_ hk'
                cases hap
                have hCz := (HRD.out.below HB2.out).at_ hi'
                obtain ⟨gp, op, hap, _, hCz⟩ := hCz
                cases hap
                obtain ⟨p, hp⟩ : ∃ p, es[k] = p := ⟨_, rfl⟩
                rw [HE.out] at hCz
                rw [hp] at hCp
                have HP := Lib.hid hp
                clear hp
                obtain ⟨pn, pk, pi, pt⟩ := p
                have f0 := fun n os => (hCp.grow4 hgp n os).1
                have z0 := fun n os => (hCz.grow4 hgp n os).1
                simp only at f0 z0
                have hk1 : (k : Int) < (i : Int) := by omega
                have hk2 : (k : Int) < (n : Int) := by omega
                have hk3 : k < n := by omega
                clear hCp hCz
                cases b2 with
                | false =>
                  have HM3 : Hid (false = true ↔ MayAt es i (k + 1)) := by
                    show _ ↔ _
                    rw [HST.out, ← HM2.out]; simp
                  clear HM2 HST
                  go_wp2_with fail
                  (refine hq_region mixedT (by kernel_rfl) ?_; (repeat (refine hq_step (fun K hK => ?_); go_simp; first | (refine hK _ ?_; clear hK K) | (apply Exists.intro; refine ⟨fun _ => ?_, hK _ ?_⟩; (fail); clear hK K))); refine hq_nil ?_; intro _ hw'; obtain ⟨⟨nq, osq⟩, hw''⟩ := hw'; subst hw'')
                  go_wp2_with fail
                  go_roundg gin
                  case measure => omega
                  case rel => exact ⟨k + 1, false, by omega, by go_num, rfl, below_next HB2.out (Nat.le_refl _) ((Grown.refl _).more _ _).below, HM3⟩
                | true =>
                  by_cases he : pn = zn
                  · have hd : (pn == zn) = true := by simpa using he
                    have HM3 : Hid (false = true ↔ MayAt es i (k + 1)) := by
                      show _ ↔ _
                      rw [HST.out, HP.out, HE.out]; simp [he]
                    clear he HM2 HST
                    go_wp2_with fail
                    (refine hq_region mixedT (by kernel_rfl) ?_; (repeat (refine hq_step (fun K hK => ?_); go_simp; first | (refine hK _ ?_; clear hK K) | (apply Exists.intro; refine ⟨fun _ => ?_, hK _ ?_⟩; (fail); clear hK K))); refine hq_nil ?_; intro _ hw'; obtain ⟨⟨nq, osq⟩, hw''⟩ := hw'; subst hw'')
                    go_wp2_with fail
                    go_roundg gin
                    case measure => omega
                    case rel => exact ⟨k + 1, false, by omega, by go_num, rfl, below_next HB2.out (Nat.le_refl _) ((Grown.refl _).more _ _).below, HM3⟩
                  · have hd : (pn == zn) = false := by simpa using he
                    have HM3 : Hid (MayAt es i (k + 1)) := by
                      show MayAt _ _ _
                      rw [HST.out, HP.out, HE.out]
                      exact ⟨HM2.out.1 rfl, he⟩
                    clear he HM2 HST
                    go_wp2_with fail
                    (refine hq_region mixedT (by kernel_rfl) ?_; (repeat (refine hq_step (fun K hK => ?_); go_simp; first | (refine hK _ ?_; clear hK K) | (apply Exists.intro; refine ⟨fun _ => ?_, hK _ ?_⟩; (fail); clear hK K))); refine hq_nil ?_; intro _ hw'; obtain ⟨⟨nq, osq⟩, hw''⟩ := hw'; subst hw'')
                    go_wp2_with fail
                    go_roundg gin
                    case measure => omega
                    case rel => exact ⟨k + 1, true, by omega, by go_num, rfl, below_next HB2.out (Nat.le_refl _) ((Grown.refl _).more _ _).below, ⟨fun _ => HM3.out, fun _ => rfl⟩⟩
        · have d1 : decide ((1 : Int) ≤ (zn.length : Int)) = false := decide_eq_false (by omega)
          have HAI : Hid (false = true ↔ MayAt es i 0) := HAT _ (by show _ = _; rw [HOK.out]; simp [e1])
          have HBI := HB
          clear HAT HOK e1
          go_wp2_with fail
          obtain ⟨wo, rfl⟩ : ∃ wo : World, wo = wr := ⟨_, rfl⟩
          go_loopg [5, 7] i (fun g2 m kv wy => ∃ (k : Nat) (b : Bool), k + g2 = i ∧ kv = .int .i64 (k : Int) ∧ m = .bool b ∧ Hid (Below w.heap.size w wy) ∧ Hid (b = true ↔ MayAt es i k))
          case atStart => exact ⟨0, _, by omega, rfl, rfl, HBI, HAI⟩
          case round =>
            obtain ⟨k, b2, hkg, rfl, rfl, HB2, HM2⟩ := hrel
            clear HBI HAI
            cases gk with
            | zero =>
              obtain rfl : k = i := by omega
              have HM3 : Hid (b2 = true ↔ MayTo es (k + 1)) := HM2.out.trans (may_end hi')
              clear HM2
              go_wp2_with fail
              go_roundg gq
              case measure => omega
              case rel => exact ⟨k + 1, b2, by omega, by go_num, rfl, HB2, HM3⟩
            | succ gin =>
              have hk' : k < es.length := by rw [HN.out]; omega
              have HST := Lib.hid (may_step hi' hk')
              obtain ⟨gp, op, hap, hgp, hCp⟩ := (HRD.out.below HB2.out).at_ hk'
              cases hap
              have hCz := (HRD.out.below HB2.out).at_ hi'
              obtain ⟨gp, op, hap, _, hCz⟩ := hCz
              cases hap
              obtain ⟨p, hp⟩ : ∃ p, es[k] = p := ⟨_, rfl⟩
              rw [HE.out] at hCz
              rw [hp] at hCp
              have HP := Lib.hid hp
              clear hp
              obtain ⟨pn, pk, pi, pt⟩ := p
              have f0 := fun n os => (hCp.grow4 hgp n os).1
              have z0 := fun n os => (hCz.grow4 hgp n os).1
              simp only at f0 z0
              have hk1 : (k : Int) < (i : Int) := by omega
              have hk2 : (k : Int) < (n : Int) := by omega
              have hk3 : k < n := by omega
              clear hCp hCz
              cases b2 with
              | false =>
                have HM3 : Hid (false = true ↔ MayAt es i (k + 1)) := by
                  show _ ↔ _
                  rw [HST.out, ← HM2.out]; simp
                clear HM2 HST
                go_wp2_with fail
                (refine hq_region mixedT (by kernel_rfl) ?_; (repeat (refine hq_step (fun K hK => ?_); go_simp; first | (refine hK _ ?_; clear hK K) | (apply Exists.intro; refine ⟨fun _ => ?_, hK _ ?_⟩; (fail); clear hK K))); refine hq_nil ?_; intro _ hw'; obtain ⟨⟨nq, osq⟩, hw''⟩ := hw'; subst hw'')
                go_wp2_with fail
                go_roundg gin
                case measure => omega
                case rel => exact ⟨k + 1, false, by omega, by go_num, rfl, below_next HB2.out (Nat.le_refl _) ((Grown.refl _).more _ _).below, HM3⟩
              | true =>
                by_cases he : pn = zn
                · have hd : (pn == zn) = true := by simpa using he
                  have HM3 : Hid (false = true ↔ MayAt es i (k + 1)) := by
                    show _ ↔ _
                    rw [HST.out, HP.out, HE.out]; simp [he]
                  clear he HM2 HST
                  go_wp2_with fail
                  (refine hq_region mixedT (by kernel_rfl) ?_; (repeat (refine hq_step (fun K hK => ?_); go_simp; first | (refine hK _ ?_; clear hK K) | (apply Exists.intro; refine ⟨fun _ => ?_, hK _ ?_⟩; (fail); clear hK K))); refine hq_nil ?_; intro _ hw'; obtain ⟨⟨nq, osq⟩, hw''⟩ := hw'; subst hw'')
                  go_wp2_with fail
                  go_roundg gin
                  case measure => omega
                  case rel => exact ⟨k + 1, false, by omega, by go_num, rfl, below_next HB2.out (Nat.le_refl _) ((Grown.refl _).more _ _).below, HM3⟩
                · have hd : (pn == zn) = false := by simpa using he
                  have HM3 : Hid (MayAt es i (k + 1)) := by
                    show MayAt _ _ _
                    rw [HST.out, HP.out, HE.out]
                    exact ⟨HM2.out.1 rfl, he⟩
                  clear he HM2 HST
                  go_wp2_with fail
                  (refine hq_region mixedT (by kernel_rfl) ?_; (repeat (refine hq_step (fun K hK => ?_); go_simp; first | (refine hK _ ?_; clear hK K) | (apply Exists.intro; refine ⟨fun _ => ?_, hK _ ?_⟩; (fail); clear hK K))); refine hq_nil ?_; intro _ hw'; obtain ⟨⟨nq, osq⟩, hw''⟩ := hw'; subst hw'')
                  go_wp2_with fail
                  go_roundg gin
                  case measure => omega
                  case rel => exact ⟨k + 1, true, by omega, by go_num, rfl, below_next HB2.out (Nat.le_refl _) ((Grown.refl _).more _ _).below, ⟨fun _ => HM3.out, fun _ => rfl⟩⟩
set_option maxRecDepth 100000 in
set_option maxHeartbeats 1000000 in
theorem may_out (w : World) (A : Option Addr) (es : List At) (n c : Nat) (hl : es.length = n) (hc : n ≤ c) (hm : c ≤ maxLen) (rd : RdA w A es) (hw : ∀ a ∈ es, a.n.length ≤ maxLen ∧ a.t.length ≤ maxLen) (hF : ¬ Few es) :
    Calls Try.prog 7 #[.slice A n c] w fun e w' => e = .returned (.bool true) ∧ Below w.heap.size w w' := by
  have hnm : Hid (n ≤ maxLen) := Nat.le_trans hc hm
  have HN := Lib.hid hl
  have HW := Lib.hid hw
  clear hl hc hm hw
  go_enter Try.func7, Try.ntmps7
  go_wp2_with fail
  refine (small_any w).mono ?_
  rintro e w1 ⟨rfl, hb1⟩
  go_wp2_with fail
  refine (few_is A es n c HN.out hnm.out HW.out false (decide_eq_false hF) w1 (rd.below hb1)).mono ?_
  rintro e w2 ⟨rfl, rfl⟩
  clear hF
  go_wp2_with fail
  go_ret
  exact ⟨rfl, hb1⟩
theorem walk_EventMay (w : World) (A : Option Addr) (es : List At) (n c : Nat) (hl : es.length = n) (hc : n ≤ c) (hm : c ≤ maxLen) (rd : RdA w A es) (hw : ∀ a ∈ es, a.n.length ≤ maxLen ∧ a.t.length ≤ maxLen) :
    Calls Try.prog 7 #[.slice A n c] w fun e w' => e = .returned (.bool true) ∧ Below w.heap.size w w' := by
  by_cases h : Few es
  · exact may_in w A es n c hl hc hm rd hw h
  · exact may_out w A es n c hl hc hm rd hw h

/-! ### The row's step. -/
namespace eventMay
theorem own : ownKnob Try.prog.godebug = none := by kernel_rfl
theorem laidOut : laidOutB Try.prog = true := by kernel_rfl
set_option linter.unusedVariables false in
set_option maxRecDepth 100000 in
theorem lifted (os : Os) (started : os.Started) (H : Type) (enc : TypeId × Value → H) :
    ReturnsInHanded {} Try.checked os 7 .any (Rows.eventMaySpec.pre6 enc Try.prog Try.f7 Rows.eventMayRow.domain false) (Rows.eventMaySpec.post enc Try.prog Try.f7 false true false false) := by
  refine returnsInHanded_of_change_sized (C := Try.checked) own started (by kernel_rfl) Try.func7
    (ChangeSpec.witness6 (enc := enc) (C := Try.checked) false ⟨#[], #[.slice none 0 0], []⟩ 8 (by kernel_rfl) (by kernel_rfl) (by kernel_rfl) (by kernel_rfl)) ?_
  intro W base args ds gs before hval0 hW hcnd hsz0 _
  have hval : ∀ (j : Nat) t v, Try.f7.params[j]? = some t → args[j]? = some v → Value.okWide Try.prog W .any base t v := hval0
  have hsz : (DataW.weightsEach Try.prog (Try.f7.params.toList ++ Rows.eventMaySpec.plain.varTypes Try.prog) (ds ++ gs)).all (· ≤ reachBytes) = true := hsz0
  have hW' := hW
  obtain ⟨p, q, hA0, hV, rfl, hfz, hnd⟩ := hW
  have hA : DataW.TrodAll enc Try.prog W 0 (fun _ => true) true Try.f7.params.toList args.toList ds p := hA0
  rw [Try.params7] at hA hval hsz
  obtain ⟨v0, vs0, d0, ds0, p0, q0, hargs, rfl, rfl, h0, r0⟩ := trodAll_cons hA
  obtain ⟨rfl, rfl, rfl⟩ := trodAll_nil r0
  obtain rfl : args = #[v0] := by cases args; simp_all
  obtain ⟨rfl, rfl⟩ := trodVars_none hV
  obtain ⟨a0, len0, cap0, rfl⟩ := okWide_slice Try.underlying22 (hval 0 22 v0 rfl rfl)
  have k0 := h0
  have lt0 : ∀ x ∈ p0, x.block < W.heap.size := by obtain ⟨m, hm⟩ := k0; exact DataW.trod_lt m _ _ _ hm
  obtain ⟨es0, hl0, hc0, hm0, rd0, hw0⟩ := open_attrs_of Try.underlying22 Try.underlying32 (by kernel_rfl) ⟨rfl, rfl, by kernel_rfl⟩ ⟨rfl, rfl, by kernel_rfl⟩ Try.underlying9 Try.underlying30 ⟨rfl, rfl, by kernel_rfl⟩ ⟨rfl, rfl, by kernel_rfl⟩ ⟨rfl, rfl, by kernel_rfl⟩ Try.underlying3 Try.underlying3 Try.underlying9 k0
  clear hA0 hval0
  refine (walk_EventMay W a0 es0 len0 cap0 hl0 hc0 hm0 rd0 hw0).mono fun e W' ⟨he, bel⟩ => ?_
  subst he
  exact ⟨_, rfl, _, _, _, [], _, [], hW', trodAll_mk1 (shut_bool Try.underlying4 _), (trodAll_cons_mk (Below.trod laidOut (by kernel_rfl) (of_decide_eq_true (by kernel_rfl)) k0 bel lt0) trodAll_mk0), rfl, bel.frame _, fun h => by cases h⟩
theorem over : Rows.eventMayRow.holds Try.pinned (OpenSpec.ofChange Rows.eventMaySpec) :=
  OpenClaim.holds_of_wide 7 Try.f7 rfl rfl rfl rfl rfl rfl rfl ⟨rfl, rfl, rfl, rfl, rfl⟩ rfl rfl rfl rfl rfl (by kernel_rfl) Try.func7 (by kernel_rfl)
    (of_decide_eq_true (by kernel_rfl)) (by unfold Func.isWrapper; first | (rw [if_pos (by decide +kernel)]; kernel_rfl) | (rw [if_neg (by decide +kernel)]; exact ⟨rfl, rfl⟩))
    (fun os started H enc _ => lifted os started H enc)
end eventMay
/-- THE STATEMENT. -/
theorem eventMay_holds : Rows.EventMaySaid := eventMay.over
#print axioms eventMay_holds
end Go.Proofs.Ytmecacgiakbclaa
