/-
  A text begins with a part of it, and with nothing else: for every name, text and prefix the call of the law answers true, and all arguments read behind it as they read before. No condition.
-/
import Derived.Test.YtcmjekchfgnbdaaPSml
import Derived.Test.YtcmjekchfgnbdaaPArgs
namespace Go.Proofs.Ytcmjekchfgnbdaa
open Go.RowKit Go.ChangeShapes Go.WideShapes Go.ChangeAt
theorem holds_begins (nm s p : List UInt8) (h1 : 1 ≤ nm.length) (h2 : nm.length ≤ 16) (hs : s.length ≤ 64) (hp : p.length ≤ 32) : Preds.holds nm 7 2 0 p 2 0 s = Preds.begins s p := by
  have r1 : Vals.right 2 0 s = true := by unfold Vals.right; simp [hs]
  have r2 : Vals.right 2 0 p = true := by unfold Vals.right; simp; omega
  unfold Preds.holds Preds.right
  rw [Preds.asks_of (by decide) (by decide) (by decide) r2 hp (fun _ => rfl), r1]
  unfold Preds.met
  simp [h1, h2]
/-- What the loop has looked at. -/
def seen (s p : List UInt8) (q : Nat) : Bool := decide (p.length ≤ s.length) && decide (p.take q = s.take q)
theorem seen_zero (s p : List UInt8) : seen s p 0 = decide (p.length ≤ s.length) := by unfold seen; simp
theorem seen_no (s p : List UInt8) (q : Nat) (h : seen s p q = false) : seen s p (q + 1) = false := by
  unfold seen at h ⊢
  rw [Bool.and_eq_false_iff] at h ⊢
  rcases h with h | h
  · exact .inl h
  · right
    simp only [decide_eq_false_iff_not] at h ⊢
    intro e
    refine h ?_
    have := congrArg (List.take q) e
    rwa [List.take_take, List.take_take, Nat.min_eq_left (by omega)] at this
theorem seen_yes (s p : List UInt8) (q : Nat) (h : seen s p q = true) (h1 : q < p.length) (h2 : q < s.length) : seen s p (q + 1) = ((p[q].toNat : Int) == (s[q].toNat : Int)) := by
  unfold seen at h ⊢
  simp only [Bool.and_eq_true, decide_eq_true_eq] at h
  rw [decide_eq_true h.1, Bool.true_and, List.take_succ_eq_append_getElem h1, List.take_succ_eq_append_getElem h2, h.2]
  have h3 : (s.take q ++ [p[q]] = s.take q ++ [s[q]]) ↔ p[q] = s[q] := ⟨fun k => by simpa using List.append_cancel_left k, fun k => by rw [k]⟩
  rw [decide_eq_decide.2 h3]
  by_cases e : p[q] = s[q]
  · rw [decide_eq_true e, e]; simp
  · rw [decide_eq_false e]
    symm
    rw [beq_eq_false_iff_ne]
    intro k
    exact e (UInt8.toNat_inj.1 (by omega))
theorem seen_end (s p : List UInt8) (q : Nat) (h1 : q ≤ p.length) (h2 : q ≤ s.length) (h : q = p.length ∨ q = s.length) : seen s p q = Preds.begins s p := by
  unfold seen Preds.begins
  by_cases hl : p.length ≤ s.length
  · have : q = p.length := by omega
    subst this
    rw [decide_eq_true hl, Bool.true_and, Bool.true_and, List.take_length]
    exact decide_eq_decide.2 eq_comm
  · rw [decide_eq_false hl]; rfl
set_option maxRecDepth 100000 in
set_option maxHeartbeats 1600000 in
theorem begins_out (w : World) (nm s p : List UInt8) (hn : nm.length ≤ 9223372036854775807) (hs : s.length ≤ 9223372036854775807) (hp : p.length ≤ 9223372036854775807) (h : nm.length < 1 ∨ 16 < nm.length ∨ 64 < s.length ∨ 32 < p.length) :
    Calls Try.prog 7 #[.string ⟨nm.toArray⟩, .string ⟨s.toArray⟩, .string ⟨p.toArray⟩] w fun e w' => e = .returned (.bool true) ∧ Below w.heap.size w w' := by
  go_enter Try.func7, Try.ntmps7
  go_wp2_with fail
  refine (small_any w).mono ?_
  rintro e w1 ⟨rfl, hb1⟩
  by_cases a1 : nm.length < 1
  · have q1 : decide ((nm.length : Int) < 1) = true := by simp; omega
    clear h a1
    go_wp2_with fail
    go_ret
    exact ⟨rfl, hb1⟩
  · have q1 : decide ((nm.length : Int) < 1) = false := by simp; omega
    by_cases a2 : 16 < nm.length
    · have q2 : decide ((16 : Int) < (nm.length : Int)) = true := by simp; omega
      clear h a1 a2
      go_wp2_with fail
      go_ret
      exact ⟨rfl, hb1⟩
    · have q2 : decide ((16 : Int) < (nm.length : Int)) = false := by simp; omega
      by_cases a3 : 64 < s.length
      · have q3 : decide ((64 : Int) < (s.length : Int)) = true := by simp; omega
        clear h a1 a2 a3
        go_wp2_with fail
        go_ret
        exact ⟨rfl, hb1⟩
      · have q3 : decide ((64 : Int) < (s.length : Int)) = false := by simp; omega
        have q4 : decide ((32 : Int) < (p.length : Int)) = true := by simp; omega
        clear h a1 a2 a3
        go_wp2_with fail
        go_ret
        exact ⟨rfl, hb1⟩
set_option maxRecDepth 100000 in
set_option maxHeartbeats 1600000 in
theorem begins_in (w : World) (nm s p : List UInt8) (h1 : 1 ≤ nm.length) (h2 : nm.length ≤ 16) (h3 : s.length ≤ 64) (h4 : p.length ≤ 32) (b : Bool) (hb : Preds.begins s p = b) :
    Calls Try.prog 7 #[.string ⟨nm.toArray⟩, .string ⟨s.toArray⟩, .string ⟨p.toArray⟩] w fun e w' => e = .returned (.bool true) ∧ Below w.heap.size w w' := by
  have HH : Hid (Preds.holds nm 7 2 0 p 2 0 s = b) := (holds_begins nm s p h1 h2 h3 h4).trans hb
  have HB := Lib.hid hb
  clear hb
  have q1 : decide ((nm.length : Int) < 1) = false := by simp; omega
  have q2 : decide ((16 : Int) < (nm.length : Int)) = false := by simp; omega
  have q3 : decide ((64 : Int) < (s.length : Int)) = false := by simp; omega
  have q4 : decide ((32 : Int) < (p.length : Int)) = false := by simp; omega
  clear h1
  go_enter Try.func7, Try.ntmps7
  go_wp2_with fail
  refine (small_any w).mono ?_
  rintro e w1 ⟨rfl, hb1⟩
  go_wp2_with fail
  have hb2 := hb1.alloc hb1.size (.cells #[.int .i64 2, .int .i64 0, .string ⟨s.toArray⟩] 23)
  refine (holds_is nm 7 2 0 p 2 0 s _ (by omega) (by omega) (by omega) b HH.out).mono ?_
  rintro e w2 ⟨rfl, hb3⟩
  have hbw := Lib.hid (below_next hb2 (Nat.le_refl _) hb3)
  clear hb1 hb2 hb3 q1 q2 q3 q4
  have HS0 := Lib.hid (seen_zero s p)
  go_wp2_with fail
  go_loopw [10, 11] (fun v x wr => ∃ q : Nat, q ≤ p.length ∧ q ≤ s.length ∧ x = .int .i64 (q : Int) ∧ v = .bool (seen s p q) ∧ Hid (Below w.heap.size w wr)) (fun _ x _ => p.length - (intOf x).toNat)
  case atStart => exact ⟨0, by omega, by omega, rfl, by rw [HS0.out], hbw⟩
  case round =>
    obtain ⟨q, c1, c2, rfl, rfl, HW⟩ := hrel
    by_cases k1 : q < p.length
    · have d1 : decide (q < p.length) = true := by simpa using k1
      by_cases k2 : q < s.length
      · have d2 : decide (q < s.length) = true := by simpa using k2
        have hx : ∀ h, (⟨p.toArray⟩ : ByteArray)[q]'h = p[q] := fun _ => rfl
        have hy : ∀ h, (⟨s.toArray⟩ : ByteArray)[q]'h = s[q] := fun _ => rfl
        cases hq : seen s p q with
        | false =>
          have HQ := Lib.hid (seen_no s p q hq)
          clear hq
          go_wp2_with fail
          go_quiet (fail)
          have hbn := Lib.hid (HW.out.trans (below_drewN (Below.refl _ _) nq))
          generalize wr.drewN nq = w3 at *
          go_wp2_with fail
          go_roundw
          case rel => exact ⟨q + 1, by omega, by omega, by go_num, by rw [HQ.out], hbn⟩
          case measure => simp [intOf]; omega
        | true =>
          have HQ := Lib.hid (seen_yes s p q hq k1 k2)
          clear hq
          go_wp2_with fail
          go_quiet (fail)
          have hbn := Lib.hid (HW.out.trans (below_drewN (Below.refl _ _) nq))
          generalize wr.drewN nq = w3 at *
          go_wp2_with fail
          go_roundw
          case rel => exact ⟨q + 1, by omega, by omega, by go_num, by rw [HQ.out], hbn⟩
          case measure => simp [intOf]; omega
      · have d2 : decide (q < s.length) = false := by simpa using k2
        have HQ : Hid (seen s p q = b) := (seen_end s p q c1 c2 (.inr (by omega))).trans HB.out
        rw [HQ.out]
        go_wp2_with fail
        go_ret
        exact ⟨by simp, HW.out⟩
    · have d1 : decide (q < p.length) = false := by simpa using k1
      have HQ : Hid (seen s p q = b) := (seen_end s p q c1 c2 (.inl (by omega))).trans HB.out
      rw [HQ.out]
      go_wp2_with fail
      go_ret
      exact ⟨by simp, HW.out⟩
theorem walk_PredPrefix (w : World) (nm : List UInt8) (hn : nm.length ≤ maxLen) (s : List UInt8) (hs : s.length ≤ maxLen) (p : List UInt8) (hp : p.length ≤ maxLen) :
    Calls Try.prog 7 #[.string ⟨nm.toArray⟩, .string ⟨s.toArray⟩, .string ⟨p.toArray⟩] w fun e w' => e = .returned (.bool true) ∧ Below w.heap.size w w' := by
  rw [maxLen_num] at hn hs hp
  by_cases h : nm.length < 1 ∨ 16 < nm.length ∨ 64 < s.length ∨ 32 < p.length
  · exact begins_out w nm s p hn hs hp h
  · exact begins_in w nm s p (by omega) (by omega) (by omega) (by omega) _ rfl

/-! ### The row's step. -/
namespace predPrefix
theorem own : ownKnob Try.prog.godebug = none := by kernel_rfl
theorem laidOut : laidOutB Try.prog = true := by kernel_rfl
set_option linter.unusedVariables false in
set_option maxRecDepth 100000 in
theorem lifted (os : Os) (started : os.Started) (H : Type) (enc : TypeId × Value → H) :
    ReturnsInHanded {} Try.checked os 7 .any (Rows.predPrefixSpec.pre6 enc Try.prog Try.f7 Rows.predPrefixRow.domain false) (Rows.predPrefixSpec.post enc Try.prog Try.f7 false true false false) := by
  refine returnsInHanded_of_change_sized (C := Try.checked) own started (by kernel_rfl) Try.func7
    (ChangeSpec.witness6 (enc := enc) (C := Try.checked) false ⟨#[], #[.string ⟨#[]⟩, .string ⟨#[]⟩, .string ⟨#[]⟩], []⟩ 8 (by kernel_rfl) (by kernel_rfl) (by kernel_rfl) (by kernel_rfl)) ?_
  intro W base args ds gs before hval0 hW hcnd hsz0 _
  have hval : ∀ (j : Nat) t v, Try.f7.params[j]? = some t → args[j]? = some v → Value.okWide Try.prog W .any base t v := hval0
  have hsz : (DataW.weightsEach Try.prog (Try.f7.params.toList ++ Rows.predPrefixSpec.plain.varTypes Try.prog) (ds ++ gs)).all (· ≤ reachBytes) = true := hsz0
  have hW' := hW
  obtain ⟨p, q, hA0, hV, rfl, hfz, hnd⟩ := hW
  have hA : DataW.TrodAll enc Try.prog W 0 (fun _ => true) true Try.f7.params.toList args.toList ds p := hA0
  rw [Try.params7] at hA hval hsz
  obtain ⟨v0, vs0, d0, ds0, p0, q0, hargs, rfl, rfl, h0, r0⟩ := trodAll_cons hA
  obtain ⟨v1, vs1, d1, ds1, p1, q1, rfl, rfl, rfl, h1, r1⟩ := trodAll_cons r0
  obtain ⟨v2, vs2, d2, ds2, p2, q2, rfl, rfl, rfl, h2, r2⟩ := trodAll_cons r1
  obtain ⟨rfl, rfl, rfl⟩ := trodAll_nil r2
  obtain rfl : args = #[v0, v1, v2] := by cases args; simp_all
  obtain ⟨rfl, rfl⟩ := trodVars_none hV
  obtain ⟨⟨⟨a0⟩⟩, rfl, rfl, rfl, w0⟩ := Go.ChangeMaps.open_string Try.underlying9 (hval 0 9 v0 rfl rfl) h0
  obtain ⟨⟨⟨a1⟩⟩, rfl, rfl, rfl, w1⟩ := Go.ChangeMaps.open_string Try.underlying9 (hval 1 9 v1 rfl rfl) h1
  obtain ⟨⟨⟨a2⟩⟩, rfl, rfl, rfl, w2⟩ := Go.ChangeMaps.open_string Try.underlying9 (hval 2 9 v2 rfl rfl) h2
  clear hA0 hval0
  refine (walk_PredPrefix W a0 w0 a1 w1 a2 w2).mono fun e W' ⟨he, bel⟩ => ?_
  subst he
  exact ⟨_, rfl, _, _, _, [], _, [], hW', trodAll_mk1 (shut_bool Try.underlying4 _), (trodAll_cons_mk (Go.ChangeMaps.shut_string Try.underlying9 w0) (trodAll_cons_mk (Go.ChangeMaps.shut_string Try.underlying9 w1) (trodAll_cons_mk (Go.ChangeMaps.shut_string Try.underlying9 w2) trodAll_mk0))), rfl, bel.frame _, fun h => by cases h⟩
theorem over : Rows.predPrefixRow.holds Try.pinned (OpenSpec.ofChange Rows.predPrefixSpec) :=
  OpenClaim.holds_of_wide 7 Try.f7 rfl rfl rfl rfl rfl rfl rfl ⟨rfl, rfl, rfl, rfl, rfl⟩ rfl rfl rfl rfl rfl (by kernel_rfl) Try.func7 (by kernel_rfl)
    (of_decide_eq_true (by kernel_rfl)) (by unfold Func.isWrapper; first | (rw [if_pos (by decide +kernel)]; kernel_rfl) | (rw [if_neg (by decide +kernel)]; exact ⟨rfl, rfl⟩))
    (fun os started H enc _ => lifted os started H enc)
end predPrefix
/-- THE STATEMENT. -/
theorem predPrefix_holds : Rows.PredPrefixSaid := predPrefix.over
#print axioms predPrefix_holds
end Go.Proofs.Ytcmjekchfgnbdaa
