/-
  All values stand in one order: for every three values the call of the law answers true, and all arguments read behind it as they read before. No condition.
-/
import Derived.Test.YtkalpobgchnbaaaVSml
import Derived.Test.YtkalpobgchnbaaaVArgs
namespace Go.Proofs.Ytkalpobgchnbaaa
open Go.RowKit Go.ChangeShapes Go.WideShapes Go.ChangeAt
/-- Three values in three blocks. -/
structure Trio (w : World) (g1 g2 g3 : Nat) (v1 v2 v3 : Array Value) : Prop where
  one : Blk w g1 23 v1
  two : Blk w g2 23 v2
  three : Blk w g3 23 v3
theorem Trio.below {w w' : World} {g1 g2 g3 : Nat} {v1 v2 v3 : Array Value} (h : Trio w g1 g2 g3 v1 v2 v3) (hb : Below w.heap.size w w') : Trio w' g1 g2 g3 v1 v2 v3 :=
  ⟨h.one.below hb h.one.lt, h.two.below hb h.two.lt, h.three.below hb h.three.lt⟩
theorem order_out (w : World) (k1 i1 : Int) (t1 : List UInt8) (k2 i2 : Int) (t2 : List UInt8) (k3 i3 : Int) (t3 : List UInt8) (h1 : t1.length ≤ 9223372036854775807) (h2 : t2.length ≤ 9223372036854775807) (h3 : t3.length ≤ 9223372036854775807)
    (hl : 300 < t1.length ∨ 300 < t2.length ∨ 300 < t3.length) :
    Calls Try.prog 6 #[.agg #[.int .i64 k1, .int .i64 i1, .string ⟨t1.toArray⟩], .agg #[.int .i64 k2, .int .i64 i2, .string ⟨t2.toArray⟩], .agg #[.int .i64 k3, .int .i64 i3, .string ⟨t3.toArray⟩]] w fun e w' => e = .returned (.bool true) ∧ Below w.heap.size w w' := by
  go_enter Try.func6, Try.ntmps6
  go_wp2_with fail
  obtain ⟨hB1, hB2, hB3, hb0⟩ := box3x3 w 23 (.int .i64 k1) (.int .i64 i1) (.string ⟨t1.toArray⟩) (.int .i64 k2) (.int .i64 i2) (.string ⟨t2.toArray⟩) (.int .i64 k3) (.int .i64 i3) (.string ⟨t3.toArray⟩)
  generalize ((w.alloc (.cells #[.int .i64 k1, .int .i64 i1, .string ⟨t1.toArray⟩] 23)).alloc (.cells #[.int .i64 k2, .int .i64 i2, .string ⟨t2.toArray⟩] 23)).alloc (.cells #[.int .i64 k3, .int .i64 i3, .string ⟨t3.toArray⟩] 23) = w0 at *
  refine (small_any w0).mono ?_
  rintro e w1 ⟨rfl, hb1⟩
  obtain ⟨c0, c1, c2, _, _, _⟩ := blk3 (hB1.below hb1 hB1.lt)
  obtain ⟨d0, d1, d2, _, _, _⟩ := blk3 (hB2.below hb1 hB2.lt)
  obtain ⟨e0, e1, e2, _, _, _⟩ := blk3 (hB3.below hb1 hB3.lt)
  have hbw := below_next hb0 (Nat.le_refl _) hb1
  clear hB1 hB2 hB3 hb0 hb1
  by_cases a1 : 300 < t1.length
  · have q1 : decide ((300 : Int) < (t1.length : Int)) = true := by simp; omega
    clear hl a1
    go_wp2_with fail
    go_ret
    exact ⟨rfl, hbw⟩
  · have q1 : decide ((300 : Int) < (t1.length : Int)) = false := by simp; omega
    by_cases a2 : 300 < t2.length
    · have q2 : decide ((300 : Int) < (t2.length : Int)) = true := by simp; omega
      clear hl a1 a2
      go_wp2_with fail
      go_ret
      exact ⟨rfl, hbw⟩
    · have q2 : decide ((300 : Int) < (t2.length : Int)) = false := by simp; omega
      have q3 : decide ((300 : Int) < (t3.length : Int)) = true := by simp; omega
      clear hl a1 a2
      go_wp2_with fail
      go_ret
      exact ⟨rfl, hbw⟩
set_option maxRecDepth 100000 in
set_option maxHeartbeats 1600000 in
theorem order_in (w : World) (k1 i1 : Int) (t1 : List UInt8) (k2 i2 : Int) (t2 : List UInt8) (k3 i3 : Int) (t3 : List UInt8) (h1 : t1.length ≤ 300) (h2 : t2.length ≤ 300) (h3 : t3.length ≤ 300) (ab bc ac : Int)
    (hab : Vals.cmp k1 i1 t1 k2 i2 t2 = ab) (hbc : Vals.cmp k2 i2 t2 k3 i3 t3 = bc) (hac : Vals.cmp k1 i1 t1 k3 i3 t3 = ac) (hba : Vals.cmp k2 i2 t2 k1 i1 t1 = -ab)
    (hz : decide (k1 = k2 ∧ i1 = i2 ∧ t1 = t2) = decide (ab = 0)) (hn1 : -1 ≤ ab) (hn2 : ab ≤ 1) (ht : ab ≤ 0 → bc ≤ 0 → ac ≤ 0) (h0 : ab = 0 → ac = bc) :
    Calls Try.prog 6 #[.agg #[.int .i64 k1, .int .i64 i1, .string ⟨t1.toArray⟩], .agg #[.int .i64 k2, .int .i64 i2, .string ⟨t2.toArray⟩], .agg #[.int .i64 k3, .int .i64 i3, .string ⟨t3.toArray⟩]] w fun e w' => e = .returned (.bool true) ∧ Below w.heap.size w w' := by
  have q1 : decide ((300 : Int) < (t1.length : Int)) = false := by simp; omega
  have q2 : decide ((300 : Int) < (t2.length : Int)) = false := by simp; omega
  have q3 : decide ((300 : Int) < (t3.length : Int)) = false := by simp; omega
  have HAB := Lib.hid hab
  have HBC := Lib.hid hbc
  have HAC := Lib.hid hac
  have HBA := Lib.hid hba
  have HZ := Lib.hid hz
  have HT := Lib.hid ht
  have H0 := Lib.hid h0
  clear hab hbc hac hba hz ht h0
  go_enter Try.func6, Try.ntmps6
  go_wp2_with fail
  obtain ⟨hB1, hB2, hB3, hb0⟩ := box3x3 w 23 (.int .i64 k1) (.int .i64 i1) (.string ⟨t1.toArray⟩) (.int .i64 k2) (.int .i64 i2) (.string ⟨t2.toArray⟩) (.int .i64 k3) (.int .i64 i3) (.string ⟨t3.toArray⟩)
  generalize ((w.alloc (.cells #[.int .i64 k1, .int .i64 i1, .string ⟨t1.toArray⟩] 23)).alloc (.cells #[.int .i64 k2, .int .i64 i2, .string ⟨t2.toArray⟩] 23)).alloc (.cells #[.int .i64 k3, .int .i64 i3, .string ⟨t3.toArray⟩] 23) = w0 at *
  refine (small_any w0).mono ?_
  rintro e w1 ⟨rfl, hb1⟩
  have hT := (Trio.mk hB1 hB2 hB3).below hb1
  have hbw := below_next hb0 (Nat.le_refl _) hb1
  clear hB1 hB2 hB3 hb0 hb1
  obtain ⟨c0, c1, c2, _, _, _⟩ := blk3 hT.one
  obtain ⟨d0, d1, d2, _, _, _⟩ := blk3 hT.two
  obtain ⟨e0, e1, e2, _, _, _⟩ := blk3 hT.three
  go_wp2_with fail
  refine (compare_is k1 i1 t1 k2 i2 t2 ab HAB.out w1).mono ?_
  rintro e w2 ⟨rfl, hb1⟩
  replace hT := hT.below hb1
  replace hbw := below_next hbw (Nat.le_refl _) hb1
  clear hb1 q1 q2 q3
  clear c0 c1 c2 d0 d1 d2 e0 e1 e2
  obtain ⟨c0, c1, c2, _, _, _⟩ := blk3 hT.one
  obtain ⟨d0, d1, d2, _, _, _⟩ := blk3 hT.two
  obtain ⟨e0, e1, e2, _, _, _⟩ := blk3 hT.three
  go_wp2_with fail
  refine (compare_is k2 i2 t2 k3 i3 t3 bc HBC.out w2).mono ?_
  rintro e w3 ⟨rfl, hb1⟩
  replace hT := hT.below hb1
  replace hbw := below_next hbw (Nat.le_refl _) hb1
  clear hb1
  clear c0 c1 c2 d0 d1 d2 e0 e1 e2
  obtain ⟨c0, c1, c2, _, _, _⟩ := blk3 hT.one
  obtain ⟨d0, d1, d2, _, _, _⟩ := blk3 hT.two
  obtain ⟨e0, e1, e2, _, _, _⟩ := blk3 hT.three
  go_wp2_with fail
  refine (compare_is k1 i1 t1 k3 i3 t3 ac HAC.out w3).mono ?_
  rintro e w4 ⟨rfl, hb1⟩
  replace hT := hT.below hb1
  replace hbw := below_next hbw (Nat.le_refl _) hb1
  clear hb1
  clear c0 c1 c2 d0 d1 d2 e0 e1 e2
  obtain ⟨c0, c1, c2, _, _, _⟩ := blk3 hT.one
  obtain ⟨d0, d1, d2, _, _, _⟩ := blk3 hT.two
  obtain ⟨e0, e1, e2, _, _, _⟩ := blk3 hT.three
  go_wp2_with fail
  refine (compare_is k2 i2 t2 k1 i1 t1 (-ab) HBA.out w4).mono ?_
  rintro e w5 ⟨rfl, hb1⟩
  replace hT := hT.below hb1
  replace hbw := below_next hbw (Nat.le_refl _) hb1
  clear hb1
  clear c0 c1 c2 d0 d1 d2 e0 e1 e2
  obtain ⟨c0, c1, c2, _, _, _⟩ := blk3 hT.one
  obtain ⟨d0, d1, d2, _, _, _⟩ := blk3 hT.two
  obtain ⟨e0, e1, e2, _, _, _⟩ := blk3 hT.three
  clear hT HAB HBC HAC HBA
  have hG := eqGuardV
  have hcs : ab = -1 ∨ ab = 0 ∨ ab = 1 := by omega
  rcases hcs with rfl | rfl | rfl
  · have HE : Hid (decide (k1 = k2 ∧ i1 = i2 ∧ t1 = t2) = false) := HZ.out
    by_cases hb : bc ≤ 0
    · have hc := HT.out (by decide) hb
      have p1 : decide (bc ≤ 0) = true := by simpa using hb
      have p2 : decide (0 < ac) = false := by simpa using hc
      clear hb hc
      go_wp2_with fail
      all_goals first | (go_ret; exact ⟨rfl, hbw⟩) | exact absurd ⟨‹k1 = k2›, ‹i1 = i2›, ‹t1 = t2›⟩ (of_decide_eq_false HE.out)
    · have p1 : decide (bc ≤ 0) = false := by simpa using hb
      clear hb
      go_wp2_with fail
      all_goals first | (go_ret; exact ⟨rfl, hbw⟩) | exact absurd ⟨‹k1 = k2›, ‹i1 = i2›, ‹t1 = t2›⟩ (of_decide_eq_false HE.out)
  · obtain ⟨rfl, rfl, rfl⟩ : k1 = k2 ∧ i1 = i2 ∧ t1 = t2 := of_decide_eq_true HZ.out
    obtain rfl := H0.out rfl
    by_cases hb : ac ≤ 0
    · have p1 : decide (ac ≤ 0) = true := by simpa using hb
      have p2 : decide (0 < ac) = false := by simpa using hb
      clear hb
      go_wp2_with fail
      go_ret
      exact ⟨rfl, hbw⟩
    · have p1 : decide (ac ≤ 0) = false := by simpa using hb
      clear hb
      go_wp2_with fail
      go_ret
      exact ⟨rfl, hbw⟩
  · have HE : Hid (decide (k1 = k2 ∧ i1 = i2 ∧ t1 = t2) = false) := HZ.out
    go_wp2_with fail
    all_goals first | (go_ret; exact ⟨rfl, hbw⟩) | exact absurd ⟨‹k1 = k2›, ‹i1 = i2›, ‹t1 = t2›⟩ (of_decide_eq_false HE.out)
theorem walk_ValueOrder (w : World) (k1 i1 : Int) (t1 : List UInt8) (_ : (Lit.int .i64 k1).wf = true) (_ : (Lit.int .i64 i1).wf = true) (h1 : t1.length ≤ maxLen) (k2 i2 : Int) (t2 : List UInt8) (_ : (Lit.int .i64 k2).wf = true) (_ : (Lit.int .i64 i2).wf = true) (h2 : t2.length ≤ maxLen)
    (k3 i3 : Int) (t3 : List UInt8) (_ : (Lit.int .i64 k3).wf = true) (_ : (Lit.int .i64 i3).wf = true) (h3 : t3.length ≤ maxLen) :
    Calls Try.prog 6 #[.agg #[.int .i64 k1, .int .i64 i1, .string ⟨t1.toArray⟩], .agg #[.int .i64 k2, .int .i64 i2, .string ⟨t2.toArray⟩], .agg #[.int .i64 k3, .int .i64 i3, .string ⟨t3.toArray⟩]] w fun e w' => e = .returned (.bool true) ∧ Below w.heap.size w w' := by
  unfold maxLen at h1 h2 h3
  by_cases hl : 300 < t1.length ∨ 300 < t2.length ∨ 300 < t3.length
  · exact order_out w k1 i1 t1 k2 i2 t2 k3 i3 t3 (by omega) (by omega) (by omega) hl
  · refine order_in w k1 i1 t1 k2 i2 t2 k3 i3 t3 (by omega) (by omega) (by omega) _ _ _ rfl rfl rfl (Vals.cmp_neg _ _ _ _ _ _) ?_ (Vals.cmp_bd _ _ _ _ _ _).1 (Vals.cmp_bd _ _ _ _ _ _).2 (Vals.cmp_trans _ _ _ _ _ _ _ _ _) ?_
    · exact decide_eq_decide.2 (Vals.cmp_zero _ _ _ _ _ _).symm
    · intro h
      obtain ⟨rfl, rfl, rfl⟩ := (Vals.cmp_zero _ _ _ _ _ _).1 h
      rfl

/-! ### The row's step. -/
namespace valueOrder
theorem own : ownKnob Try.prog.godebug = none := by kernel_rfl
theorem laidOut : laidOutB Try.prog = true := by kernel_rfl
set_option linter.unusedVariables false in
set_option maxRecDepth 100000 in
theorem lifted (os : Os) (started : os.Started) (H : Type) (enc : TypeId × Value → H) :
    ReturnsInHanded {} Try.checked os 6 .any (Rows.valueOrderSpec.pre6 enc Try.prog Try.f6 Rows.valueOrderRow.domain false) (Rows.valueOrderSpec.post enc Try.prog Try.f6 false true false false) := by
  refine returnsInHanded_of_change_sized (C := Try.checked) own started (by kernel_rfl) Try.func6
    (ChangeSpec.witness6 (enc := enc) (C := Try.checked) false ⟨#[], #[.agg #[.int .i64 0, .int .i64 0, .string ⟨#[]⟩], .agg #[.int .i64 0, .int .i64 0, .string ⟨#[]⟩], .agg #[.int .i64 0, .int .i64 0, .string ⟨#[]⟩]], []⟩ 8 (by kernel_rfl) (by kernel_rfl) (by kernel_rfl) (by kernel_rfl)) ?_
  intro W base args ds gs before hval0 hW hcnd hsz0 _
  have hval : ∀ (j : Nat) t v, Try.f6.params[j]? = some t → args[j]? = some v → Value.okWide Try.prog W .any base t v := hval0
  have hsz : (DataW.weightsEach Try.prog (Try.f6.params.toList ++ Rows.valueOrderSpec.plain.varTypes Try.prog) (ds ++ gs)).all (· ≤ reachBytes) = true := hsz0
  have hW' := hW
  obtain ⟨p, q, hA0, hV, rfl, hfz, hnd⟩ := hW
  have hA : DataW.TrodAll enc Try.prog W 0 (fun _ => true) true Try.f6.params.toList args.toList ds p := hA0
  rw [Try.params6] at hA hval hsz
  obtain ⟨v0, vs0, d0, ds0, p0, q0, hargs, rfl, rfl, h0, r0⟩ := trodAll_cons hA
  obtain ⟨v1, vs1, d1, ds1, p1, q1, rfl, rfl, rfl, h1, r1⟩ := trodAll_cons r0
  obtain ⟨v2, vs2, d2, ds2, p2, q2, rfl, rfl, rfl, h2, r2⟩ := trodAll_cons r1
  obtain ⟨rfl, rfl, rfl⟩ := trodAll_nil r2
  obtain rfl : args = #[v0, v1, v2] := by cases args; simp_all
  obtain ⟨rfl, rfl⟩ := trodVars_none hV
  obtain ⟨kk0, ii0, ss0, rfl, wk0, wi0, ws0⟩ := open_val_of Try.underlying23 (by kernel_rfl) (by kernel_rfl) Try.underlying3 Try.underlying3 Try.underlying9 (hval 0 23 v0 rfl rfl) h0
  have k0 := h0
  have lt0 : ∀ x ∈ p0, x.block < W.heap.size := by obtain ⟨m, hm⟩ := k0; exact DataW.trod_lt m _ _ _ hm
  obtain ⟨kk1, ii1, ss1, rfl, wk1, wi1, ws1⟩ := open_val_of Try.underlying23 (by kernel_rfl) (by kernel_rfl) Try.underlying3 Try.underlying3 Try.underlying9 (hval 1 23 v1 rfl rfl) h1
  have k1 := h1
  have lt1 : ∀ x ∈ p1, x.block < W.heap.size := by obtain ⟨m, hm⟩ := k1; exact DataW.trod_lt m _ _ _ hm
  obtain ⟨kk2, ii2, ss2, rfl, wk2, wi2, ws2⟩ := open_val_of Try.underlying23 (by kernel_rfl) (by kernel_rfl) Try.underlying3 Try.underlying3 Try.underlying9 (hval 2 23 v2 rfl rfl) h2
  have k2 := h2
  have lt2 : ∀ x ∈ p2, x.block < W.heap.size := by obtain ⟨m, hm⟩ := k2; exact DataW.trod_lt m _ _ _ hm
  clear hA0 hval0
  refine (walk_ValueOrder W kk0 ii0 ss0 wk0 wi0 ws0 kk1 ii1 ss1 wk1 wi1 ws1 kk2 ii2 ss2 wk2 wi2 ws2).mono fun e W' ⟨he, bel⟩ => ?_
  subst he
  exact ⟨_, rfl, _, _, _, [], _, [], hW', trodAll_mk1 (shut_bool Try.underlying4 _), (trodAll_cons_mk (Below.trod laidOut (by kernel_rfl) (of_decide_eq_true (by kernel_rfl)) k0 bel lt0) (trodAll_cons_mk (Below.trod laidOut (by kernel_rfl) (of_decide_eq_true (by kernel_rfl)) k1 bel lt1) (trodAll_cons_mk (Below.trod laidOut (by kernel_rfl) (of_decide_eq_true (by kernel_rfl)) k2 bel lt2) trodAll_mk0))), rfl, bel.frame _, fun h => by cases h⟩
theorem over : Rows.valueOrderRow.holds Try.pinned (OpenSpec.ofChange Rows.valueOrderSpec) :=
  OpenClaim.holds_of_wide 6 Try.f6 rfl rfl rfl rfl rfl rfl rfl ⟨rfl, rfl, rfl, rfl, rfl⟩ rfl rfl rfl rfl rfl (by kernel_rfl) Try.func6 (by kernel_rfl)
    (of_decide_eq_true (by kernel_rfl)) (by unfold Func.isWrapper; first | (rw [if_pos (by decide +kernel)]; kernel_rfl) | (rw [if_neg (by decide +kernel)]; exact ⟨rfl, rfl⟩))
    (fun os started H enc _ => lifted os started H enc)
end valueOrder
/-- THE STATEMENT. -/
theorem valueOrder_holds : Rows.ValueOrderSaid := valueOrder.over
#print axioms valueOrder_holds
end Go.Proofs.Ytkalpobgchnbaaa
