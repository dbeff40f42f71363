/-
  Unlike right values have unlike bytes: for every two values the call of the law answers true, and all arguments read behind it as they read before. No condition.
-/
import Derived.Test.YtkalpobgchnbaaaVSml
import Derived.Test.YtkalpobgchnbaaaVArgs
namespace Go.Proofs.Ytkalpobgchnbaaa
open Go.RowKit Go.ChangeShapes Go.WideShapes Go.ChangeAt
theorem apart_out1 (w : World) (k1 i1 : Int) (t1 : List UInt8) (k2 i2 : Int) (t2 : List UInt8) (h1 : t1.length ≤ 9223372036854775807) (hl : 300 < t1.length) :
    Calls Try.prog 7 #[.agg #[.int .i64 k1, .int .i64 i1, .string ⟨t1.toArray⟩], .agg #[.int .i64 k2, .int .i64 i2, .string ⟨t2.toArray⟩]] w fun e w' => e = .returned (.bool true) ∧ Below w.heap.size w w' := by
  have q1 : decide ((300 : Int) < (t1.length : Int)) = true := by simp; omega
  go_enter Try.func7, Try.ntmps7
  go_wp2_with fail
  obtain ⟨hB1, hB2, hb0⟩ := box3x2 w 23 (.int .i64 k1) (.int .i64 i1) (.string ⟨t1.toArray⟩) (.int .i64 k2) (.int .i64 i2) (.string ⟨t2.toArray⟩)
  generalize (w.alloc (.cells #[.int .i64 k1, .int .i64 i1, .string ⟨t1.toArray⟩] 23)).alloc (.cells #[.int .i64 k2, .int .i64 i2, .string ⟨t2.toArray⟩] 23) = w0 at *
  refine (small_any w0).mono ?_
  rintro e w1 ⟨rfl, hb1⟩
  replace hB1 := hB1.below hb1 hB1.lt
  replace hB2 := hB2.below hb1 hB2.lt
  have hbw := below_next hb0 (Nat.le_refl _) hb1
  clear hb0 hb1
  obtain ⟨c0, c1, c2, _, _, _⟩ := blk3 hB1
  obtain ⟨d0, d1, d2, _, _, _⟩ := blk3 hB2
  go_wp2_with fail
  go_ret
  exact ⟨rfl, hbw⟩
theorem apart_out2 (w : World) (k1 i1 : Int) (t1 : List UInt8) (k2 i2 : Int) (t2 : List UInt8) (h1 : t1.length ≤ 300) (h2 : t2.length ≤ 9223372036854775807) (hl : 300 < t2.length) :
    Calls Try.prog 7 #[.agg #[.int .i64 k1, .int .i64 i1, .string ⟨t1.toArray⟩], .agg #[.int .i64 k2, .int .i64 i2, .string ⟨t2.toArray⟩]] w fun e w' => e = .returned (.bool true) ∧ Below w.heap.size w w' := by
  have q1 : decide ((300 : Int) < (t1.length : Int)) = false := by simp; omega
  have q2 : decide ((300 : Int) < (t2.length : Int)) = true := by simp; omega
  go_enter Try.func7, Try.ntmps7
  go_wp2_with fail
  obtain ⟨hB1, hB2, hb0⟩ := box3x2 w 23 (.int .i64 k1) (.int .i64 i1) (.string ⟨t1.toArray⟩) (.int .i64 k2) (.int .i64 i2) (.string ⟨t2.toArray⟩)
  generalize (w.alloc (.cells #[.int .i64 k1, .int .i64 i1, .string ⟨t1.toArray⟩] 23)).alloc (.cells #[.int .i64 k2, .int .i64 i2, .string ⟨t2.toArray⟩] 23) = w0 at *
  refine (small_any w0).mono ?_
  rintro e w1 ⟨rfl, hb1⟩
  replace hB1 := hB1.below hb1 hB1.lt
  replace hB2 := hB2.below hb1 hB2.lt
  have hbw := below_next hb0 (Nat.le_refl _) hb1
  clear hb0 hb1
  obtain ⟨c0, c1, c2, _, _, _⟩ := blk3 hB1
  obtain ⟨d0, d1, d2, _, _, _⟩ := blk3 hB2
  go_wp2_with fail
  go_ret
  exact ⟨rfl, hbw⟩
theorem apart_out3 (w : World) (k1 i1 : Int) (t1 : List UInt8) (k2 i2 : Int) (t2 : List UInt8) (h1 : t1.length ≤ 300) (h2 : t2.length ≤ 300) (hr : Vals.right k1 i1 t1 = false) :
    Calls Try.prog 7 #[.agg #[.int .i64 k1, .int .i64 i1, .string ⟨t1.toArray⟩], .agg #[.int .i64 k2, .int .i64 i2, .string ⟨t2.toArray⟩]] w fun e w' => e = .returned (.bool true) ∧ Below w.heap.size w w' := by
  have q1 : decide ((300 : Int) < (t1.length : Int)) = false := by simp; omega
  have q2 : decide ((300 : Int) < (t2.length : Int)) = false := by simp; omega
  have HR := Lib.hid hr
  clear hr
  go_enter Try.func7, Try.ntmps7
  go_wp2_with fail
  obtain ⟨hB1, hB2, hb0⟩ := box3x2 w 23 (.int .i64 k1) (.int .i64 i1) (.string ⟨t1.toArray⟩) (.int .i64 k2) (.int .i64 i2) (.string ⟨t2.toArray⟩)
  generalize (w.alloc (.cells #[.int .i64 k1, .int .i64 i1, .string ⟨t1.toArray⟩] 23)).alloc (.cells #[.int .i64 k2, .int .i64 i2, .string ⟨t2.toArray⟩] 23) = w0 at *
  refine (small_any w0).mono ?_
  rintro e w1 ⟨rfl, hb1⟩
  replace hB1 := hB1.below hb1 hB1.lt
  replace hB2 := hB2.below hb1 hB2.lt
  have hbw := below_next hb0 (Nat.le_refl _) hb1
  clear hb0 hb1
  obtain ⟨c0, c1, c2, _, _, _⟩ := blk3 hB1
  obtain ⟨d0, d1, d2, _, _, _⟩ := blk3 hB2
  go_wp2_with fail
  refine (right_is k1 i1 t1 w1 (by omega) false HR.out).mono ?_
  rintro e w2 ⟨rfl, hb1⟩
  replace hB1 := hB1.below hb1 hB1.lt
  replace hB2 := hB2.below hb1 hB2.lt
  replace hbw := below_next hbw (Nat.le_refl _) hb1
  clear hb1 c0 c1 c2 d0 d1 d2
  obtain ⟨c0, c1, c2, _, _, _⟩ := blk3 hB1
  obtain ⟨d0, d1, d2, _, _, _⟩ := blk3 hB2
  go_wp2_with fail
  go_ret
  exact ⟨rfl, hbw⟩
theorem apart_out4 (w : World) (k1 i1 : Int) (t1 : List UInt8) (k2 i2 : Int) (t2 : List UInt8) (h1 : t1.length ≤ 300) (h2 : t2.length ≤ 300) (hr : Vals.right k1 i1 t1 = true) (hr2 : Vals.right k2 i2 t2 = false) :
    Calls Try.prog 7 #[.agg #[.int .i64 k1, .int .i64 i1, .string ⟨t1.toArray⟩], .agg #[.int .i64 k2, .int .i64 i2, .string ⟨t2.toArray⟩]] w fun e w' => e = .returned (.bool true) ∧ Below w.heap.size w w' := by
  have q1 : decide ((300 : Int) < (t1.length : Int)) = false := by simp; omega
  have q2 : decide ((300 : Int) < (t2.length : Int)) = false := by simp; omega
  have HR := Lib.hid hr
  have HR2 := Lib.hid hr2
  clear hr hr2
  go_enter Try.func7, Try.ntmps7
  go_wp2_with fail
  obtain ⟨hB1, hB2, hb0⟩ := box3x2 w 23 (.int .i64 k1) (.int .i64 i1) (.string ⟨t1.toArray⟩) (.int .i64 k2) (.int .i64 i2) (.string ⟨t2.toArray⟩)
  generalize (w.alloc (.cells #[.int .i64 k1, .int .i64 i1, .string ⟨t1.toArray⟩] 23)).alloc (.cells #[.int .i64 k2, .int .i64 i2, .string ⟨t2.toArray⟩] 23) = w0 at *
  refine (small_any w0).mono ?_
  rintro e w1 ⟨rfl, hb1⟩
  replace hB1 := hB1.below hb1 hB1.lt
  replace hB2 := hB2.below hb1 hB2.lt
  have hbw := below_next hb0 (Nat.le_refl _) hb1
  clear hb0 hb1
  obtain ⟨c0, c1, c2, _, _, _⟩ := blk3 hB1
  obtain ⟨d0, d1, d2, _, _, _⟩ := blk3 hB2
  go_wp2_with fail
  refine (right_is k1 i1 t1 w1 (by omega) true HR.out).mono ?_
  rintro e w2 ⟨rfl, hb1⟩
  replace hB1 := hB1.below hb1 hB1.lt
  replace hB2 := hB2.below hb1 hB2.lt
  replace hbw := below_next hbw (Nat.le_refl _) hb1
  clear hb1 c0 c1 c2 d0 d1 d2
  obtain ⟨c0, c1, c2, _, _, _⟩ := blk3 hB1
  obtain ⟨d0, d1, d2, _, _, _⟩ := blk3 hB2
  go_wp2_with fail
  refine (right_is k2 i2 t2 w2 (by omega) false HR2.out).mono ?_
  rintro e w3 ⟨rfl, hb1⟩
  replace hB1 := hB1.below hb1 hB1.lt
  replace hB2 := hB2.below hb1 hB2.lt
  replace hbw := below_next hbw (Nat.le_refl _) hb1
  clear hb1 c0 c1 c2 d0 d1 d2
  obtain ⟨c0, c1, c2, _, _, _⟩ := blk3 hB1
  obtain ⟨d0, d1, d2, _, _, _⟩ := blk3 hB2
  go_wp2_with fail
  go_ret
  exact ⟨rfl, hbw⟩
set_option maxRecDepth 100000 in
set_option maxHeartbeats 1600000 in
theorem apart_in (w : World) (k1 i1 : Int) (t1 : List UInt8) (k2 i2 : Int) (t2 : List UInt8) (h1 : t1.length ≤ 300) (h2 : t2.length ≤ 300) (hr : Vals.right k1 i1 t1 = true) (hr2 : Vals.right k2 i2 t2 = true) (hi1 : -9223372036854775808 ≤ i1) (hi2 : i1 ≤ 9223372036854775807)
    (hj1 : -9223372036854775808 ≤ i2) (hj2 : i2 ≤ 9223372036854775807) (x1 x2 : List UInt8) (L1 L2 : Nat) (b : Bool) (hx1 : Vals.lay k1 i1 t1 = x1) (hx2 : Vals.lay k2 i2 t2 = x2) (hL1 : x1.length = L1) (hL2 : x2.length = L2) (hm1 : L1 ≤ 200) (hm2 : L2 ≤ 200)
    (hbx : decide (x1 = x2) = b) (hbv : decide (k1 = k2 ∧ i1 = i2 ∧ t1 = t2) = b) :
    Calls Try.prog 7 #[.agg #[.int .i64 k1, .int .i64 i1, .string ⟨t1.toArray⟩], .agg #[.int .i64 k2, .int .i64 i2, .string ⟨t2.toArray⟩]] w fun e w' => e = .returned (.bool true) ∧ Below w.heap.size w w' := by
  have q1 : decide ((300 : Int) < (t1.length : Int)) = false := by simp; omega
  have q2 : decide ((300 : Int) < (t2.length : Int)) = false := by simp; omega
  have HR := Lib.hid hr
  have HR2 := Lib.hid hr2
  have HX1 := Lib.hid hx1
  have HX2 := Lib.hid hx2
  have HL1 := Lib.hid hL1
  have HL2 := Lib.hid hL2
  have HBX := Lib.hid hbx
  have HBV := Lib.hid hbv
  clear hr hr2 hx1 hx2 hL1 hL2 hbx hbv
  have hnil : ∀ W, Rd W none [] := fun _ => Or.inl rfl
  go_enter Try.func7, Try.ntmps7
  go_wp2_with fail
  obtain ⟨hB1, hB2, hb0⟩ := box3x2 w 23 (.int .i64 k1) (.int .i64 i1) (.string ⟨t1.toArray⟩) (.int .i64 k2) (.int .i64 i2) (.string ⟨t2.toArray⟩)
  generalize (w.alloc (.cells #[.int .i64 k1, .int .i64 i1, .string ⟨t1.toArray⟩] 23)).alloc (.cells #[.int .i64 k2, .int .i64 i2, .string ⟨t2.toArray⟩] 23) = w0 at *
  refine (small_any w0).mono ?_
  rintro e w1 ⟨rfl, hb1⟩
  replace hB1 := hB1.below hb1 hB1.lt
  replace hB2 := hB2.below hb1 hB2.lt
  have hbw := below_next hb0 (Nat.le_refl _) hb1
  clear hb0 hb1
  obtain ⟨c0, c1, c2, _, _, _⟩ := blk3 hB1
  obtain ⟨d0, d1, d2, _, _, _⟩ := blk3 hB2
  go_wp2_with fail
  refine (right_is k1 i1 t1 w1 (by omega) true HR.out).mono ?_
  rintro e w2 ⟨rfl, hb1⟩
  replace hB1 := hB1.below hb1 hB1.lt
  replace hB2 := hB2.below hb1 hB2.lt
  replace hbw := below_next hbw (Nat.le_refl _) hb1
  clear hb1 c0 c1 c2 d0 d1 d2
  obtain ⟨c0, c1, c2, _, _, _⟩ := blk3 hB1
  obtain ⟨d0, d1, d2, _, _, _⟩ := blk3 hB2
  go_wp2_with fail
  refine (right_is k2 i2 t2 w2 (by omega) true HR2.out).mono ?_
  rintro e w3 ⟨rfl, hb1⟩
  replace hB1 := hB1.below hb1 hB1.lt
  replace hB2 := hB2.below hb1 hB2.lt
  replace hbw := below_next hbw (Nat.le_refl _) hb1
  clear hb1 c0 c1 c2 d0 d1 d2
  obtain ⟨c0, c1, c2, _, _, _⟩ := blk3 hB1
  obtain ⟨d0, d1, d2, _, _, _⟩ := blk3 hB2
  clear c0 c1 c2 d0 d1 d2 q1 q2 HR HR2
  go_wp2_with fail
  have hkeep : Hid (∀ w', Below w3.heap.size w3 w' → Below w3.heap.size w3 w' ∧ w'.cell? ⟨w.heap.size, 0, none⟩ = some (.int .i64 k1) ∧ w'.cell? ⟨w.heap.size, 1, none⟩ = some (.int .i64 i1) ∧ w'.cell? ⟨w.heap.size, 2, none⟩ = some (.string ⟨t1.toArray⟩) ∧ w'.cell? ⟨(w.heap.size + 1), 0, none⟩ = some (.int .i64 k2) ∧ w'.cell? ⟨(w.heap.size + 1), 1, none⟩ = some (.int .i64 i2) ∧ w'.cell? ⟨(w.heap.size + 1), 2, none⟩ = some (.string ⟨t2.toArray⟩)) := fun w' h => ⟨h, (hB1.below h hB1.lt).cell 0, (hB1.below h hB1.lt).cell 1, (hB1.below h hB1.lt).cell 2, (hB2.below h hB2.lt).cell 0, (hB2.below h hB2.lt).cell 1, (hB2.below h hB2.lt).cell 2⟩
  have hS0 := hkeep.out w3.drew (Below.refl _ _).drew
  refine wp_region_held_drew (S := fun w' => Below w3.heap.size w3 w' ∧ w'.cell? ⟨w.heap.size, 0, none⟩ = some (.int .i64 k1) ∧ w'.cell? ⟨w.heap.size, 1, none⟩ = some (.int .i64 i1) ∧ w'.cell? ⟨w.heap.size, 2, none⟩ = some (.string ⟨t1.toArray⟩) ∧ w'.cell? ⟨(w.heap.size + 1), 0, none⟩ = some (.int .i64 k2) ∧ w'.cell? ⟨(w.heap.size + 1), 1, none⟩ = some (.int .i64 i2) ∧ w'.cell? ⟨(w.heap.size + 1), 2, none⟩ = some (.string ⟨t2.toArray⟩)) (by kernel_rfl) hS0 (fun _ => ?_)
  refine wpAnyH_yes (i := 0) (d := 28) (v := ?_) rfl rfl (by kernel_rfl) (by kernel_rfl) (by kernel_rfl) (fun _ _ _ h => h) (by rfl) ?_ hS0 ?_
  rotate_left
  · intro w' hSw; go_simp <;> with_reducible rfl
  simp only [Act.put, List.setIfInBounds_toArray, List.set_cons_zero, List.set_cons_succ]
  refine wpAnyH_yes (i := 1) (d := 29) (v := ?_) rfl rfl (by kernel_rfl) (by kernel_rfl) (by kernel_rfl) (fun _ _ _ h => h) (by rfl) ?_ hS0 ?_
  rotate_left
  · intro w' hSw; go_simp <;> with_reducible rfl
  simp only [Act.put, List.setIfInBounds_toArray, List.set_cons_zero, List.set_cons_succ]
  refine wpAnyH_yes (i := 2) (d := 30) (v := ?_) rfl rfl (by kernel_rfl) (by kernel_rfl) (by kernel_rfl) (fun _ _ _ h => h) (by rfl) ?_ hS0 ?_
  rotate_left
  · intro w' hSw; go_simp <;> with_reducible rfl
  simp only [Act.put, List.setIfInBounds_toArray, List.set_cons_zero, List.set_cons_succ]
  refine wpAnyH_yes (i := 5) (d := 33) (v := ?_) rfl rfl (by kernel_rfl) (by kernel_rfl) (by kernel_rfl) (fun _ _ _ h => h) (by rfl) ?_ hS0 ?_
  rotate_left
  · intro w' hSw; go_simp <;> with_reducible rfl
  simp only [Act.put, List.setIfInBounds_toArray, List.set_cons_zero, List.set_cons_succ]
  refine wpAnyH_yes (i := 9) (d := 37) (v := ?_) rfl rfl (by kernel_rfl) (by kernel_rfl) (by kernel_rfl) (fun _ _ _ h => h) (by rfl) ?_ hS0 ?_
  rotate_left
  · intro w' hSw; go_simp <;> with_reducible rfl
  simp only [Act.put, List.setIfInBounds_toArray, List.set_cons_zero, List.set_cons_succ]
  refine wpAnyH_yes (i := 10) (d := 38) (v := ?_) rfl rfl (by kernel_rfl) (by kernel_rfl) (by kernel_rfl) (fun _ _ _ h => h) (by rfl) ?_ hS0 ?_
  rotate_left
  · intro w' hSw; go_simp <;> with_reducible rfl
  simp only [Act.put, List.setIfInBounds_toArray, List.set_cons_zero, List.set_cons_succ]
  refine wpAnyH_yes (i := 11) (d := 39) (v := .bool b) rfl rfl (by kernel_rfl) (by kernel_rfl) (by kernel_rfl) (fun _ _ _ h => h) (by rfl) ?_ hS0 ?_
  · intro w' hSw
    go_simp
    have hb := HBV.out
    by_cases a1 : k1 = k2 <;> by_cases a2 : i1 = i2 <;> by_cases a3 : t1 = t2 <;> simp [a1, a2, a3] at hb ⊢ <;> exact hb
  simp only [Act.put, List.setIfInBounds_toArray, List.set_cons_zero, List.set_cons_succ]
  refine wpAnyH_one (i := 3) (by kernel_rfl) rfl (by rfl) (fun K hK1 => ?_)
  go_simp
  with_reducible refine (vput_at none [] 0 0 L1 k1 i1 t1 rfl (by rw [HX1.out, HL1.out]; omega) (by omega) hi1 hi2 (by omega) _ (hnil _)).mono ?_
  rintro e w4 ⟨D1, e1, rfl, _, hb4, hr4⟩
  rw [List.nil_append, HX1.out] at hr4
  have hb4' := below_next hS0.1 (Nat.le_refl _) hb4
  have hS1 := hkeep.out w4 hb4'
  go_wp2_with fail
  refine hK1.out _ _ hS1 ?_
  have hkeep2 : Hid (∀ w', Below w4.heap.size w4 w' → Below w3.heap.size w3 w' ∧ w'.cell? ⟨w.heap.size, 0, none⟩ = some (.int .i64 k1) ∧ w'.cell? ⟨w.heap.size, 1, none⟩ = some (.int .i64 i1) ∧ w'.cell? ⟨w.heap.size, 2, none⟩ = some (.string ⟨t1.toArray⟩) ∧ w'.cell? ⟨(w.heap.size + 1), 0, none⟩ = some (.int .i64 k2) ∧ w'.cell? ⟨(w.heap.size + 1), 1, none⟩ = some (.int .i64 i2) ∧ w'.cell? ⟨(w.heap.size + 1), 2, none⟩ = some (.string ⟨t2.toArray⟩) ∧ Sem.run Try.prog (convert 24 9 (.slice D1 L1 e1)) w' = .ok (.string ⟨(x1).toArray⟩) w' ∧ Below w4.heap.size w4 w') := fun w' h => by
    obtain ⟨s0, s1, s2, s3, s4, s5, s6⟩ := hkeep.out w' (below_next hb4' (Nat.le_refl _) h)
    exact ⟨s0, s1, s2, s3, s4, s5, s6, str_below e1 hr4 HL1.out h, h⟩
  refine wpAnyH_more (S' := fun w' => Below w3.heap.size w3 w' ∧ w'.cell? ⟨w.heap.size, 0, none⟩ = some (.int .i64 k1) ∧ w'.cell? ⟨w.heap.size, 1, none⟩ = some (.int .i64 i1) ∧ w'.cell? ⟨w.heap.size, 2, none⟩ = some (.string ⟨t1.toArray⟩) ∧ w'.cell? ⟨(w.heap.size + 1), 0, none⟩ = some (.int .i64 k2) ∧ w'.cell? ⟨(w.heap.size + 1), 1, none⟩ = some (.int .i64 i2) ∧ w'.cell? ⟨(w.heap.size + 1), 2, none⟩ = some (.string ⟨t2.toArray⟩) ∧ Sem.run Try.prog (convert 24 9 (.slice D1 L1 e1)) w' = .ok (.string ⟨(x1).toArray⟩) w' ∧ Below w4.heap.size w4 w') (fun w' h => ⟨h.1, h.2.1, h.2.2.1, h.2.2.2.1, h.2.2.2.2.1, h.2.2.2.2.2.1, h.2.2.2.2.2.2.1⟩) _ _ _ _ ?_
  have hS2 := hkeep2.out w4 (Below.refl _ _)
  refine wpAnyH_yes (i := 4) (d := 32) (v := ?_) rfl rfl (by kernel_rfl) (by kernel_rfl) (by kernel_rfl) (fun _ _ _ h => h) (by rfl) ?_ hS2 ?_
  rotate_left
  · intro w' hSw; go_simp <;> with_reducible rfl
  simp only [Act.put, List.setIfInBounds_toArray, List.set_cons_zero, List.set_cons_succ]
  refine wpAnyH_one (i := 6) (by kernel_rfl) rfl (by rfl) (fun K hK2 => ?_)
  go_simp
  with_reducible refine (vput_at none [] 0 0 L2 k2 i2 t2 rfl (by rw [HX2.out, HL2.out]; omega) (by omega) hj1 hj2 (by omega) _ (hnil _)).mono ?_
  rintro e w5 ⟨D2, e2, rfl, _, hb5, hr5⟩
  rw [List.nil_append, HX2.out] at hr5
  have hst := str_below e2 hr5 HL2.out (Below.refl _ _)
  have hS3 := hkeep2.out w5 hb5
  go_wp2_with fail
  refine hK2.out _ _ hS3 ?_
  refine wpAnyH_one (i := 7) (by kernel_rfl) rfl (by rfl) (fun K hKc => ?_)
  go_simp
  refine hKc.out _ _ hS3 ?_
  refine wpAnyH_yes (i := 8) (d := 36) (v := .bool b) rfl rfl (by kernel_rfl) (by kernel_rfl) (by kernel_rfl) (fun _ _ _ h => h) (by rfl) ?_ hS3 ?_
  · intro w' hSw
    go_simp
    rw [← HBX.out, Bool.eq_iff_iff]; simp
  simp only [Act.put, List.setIfInBounds_toArray, List.set_cons_zero, List.set_cons_succ]
  refine wpAnyH_yes (i := 12) (d := 40) (v := ?_) rfl rfl (by kernel_rfl) (by kernel_rfl) (by kernel_rfl) (fun _ _ _ h => h) (by rfl) ?_ hS3 ?_
  rotate_left
  · intro w' hSw; go_simp <;> with_reducible rfl
  simp only [Act.put, List.setIfInBounds_toArray, List.set_cons_zero, List.set_cons_succ]
  refine wpAnyH_yes (i := 13) (d := 41) (v := ?_) rfl rfl (by kernel_rfl) (by kernel_rfl) (by kernel_rfl) (fun _ _ _ h => h) (by rfl) ?_ hS3 ?_
  rotate_left
  · intro w' hSw; go_simp <;> with_reducible rfl
  simp only [Act.put, List.setIfInBounds_toArray, List.set_cons_zero, List.set_cons_succ]
  refine wpAnyH_yes (i := 14) (d := 4) (v := ?_) rfl rfl (by kernel_rfl) (by kernel_rfl) (by kernel_rfl) (fun _ _ _ h => h) (by rfl) ?_ hS3 ?_
  rotate_left
  · intro w' hSw; go_simp <;> with_reducible rfl
  simp only [Act.put, List.setIfInBounds_toArray, List.set_cons_zero, List.set_cons_succ]
  refine wpAnyH_done (by kernel_rfl) ?_ _
  have hbl := below_next hbw (Nat.le_refl _) hS3.1
  go_wp2_with fail
  go_ret
  exact ⟨rfl, hbl⟩
theorem walk_ValueApart (w : World) (k1 i1 : Int) (t1 : List UInt8) (_ : (Lit.int .i64 k1).wf = true) (w1 : (Lit.int .i64 i1).wf = true) (h1 : t1.length ≤ maxLen) (k2 i2 : Int) (t2 : List UInt8) (_ : (Lit.int .i64 k2).wf = true) (w2 : (Lit.int .i64 i2).wf = true) (h2 : t2.length ≤ maxLen) :
    Calls Try.prog 7 #[.agg #[.int .i64 k1, .int .i64 i1, .string ⟨t1.toArray⟩], .agg #[.int .i64 k2, .int .i64 i2, .string ⟨t2.toArray⟩]] w fun e w' => e = .returned (.bool true) ∧ Below w.heap.size w w' := by
  unfold maxLen at h1 h2
  have b1 := bounds_i64 w1
  have b2 := bounds_i64 w2
  by_cases a1 : 300 < t1.length
  · exact apart_out1 w k1 i1 t1 k2 i2 t2 (by omega) a1
  · by_cases a2 : 300 < t2.length
    · exact apart_out2 w k1 i1 t1 k2 i2 t2 (by omega) (by omega) a2
    · cases r1 : Vals.right k1 i1 t1 with
      | false => exact apart_out3 w k1 i1 t1 k2 i2 t2 (by omega) (by omega) r1
      | true =>
        cases r2 : Vals.right k2 i2 t2 with
        | false => exact apart_out4 w k1 i1 t1 k2 i2 t2 (by omega) (by omega) r1 r2
        | true =>
          refine apart_in w k1 i1 t1 k2 i2 t2 (by omega) (by omega) r1 r2 b1.1 b1.2 b2.1 b2.2 _ _ _ _ _ rfl rfl rfl rfl (Vals.lay_len _ _ _ b1.1 b1.2) (Vals.lay_len _ _ _ b2.1 b2.2) rfl ?_
          exact decide_eq_decide.2 (Vals.lay_inj _ _ _ _ _ _ r1 r2 b1.1 b1.2 b2.1 b2.2).symm

/-! ### The row's step. -/
namespace valueApart
theorem own : ownKnob Try.prog.godebug = none := by kernel_rfl
theorem laidOut : laidOutB Try.prog = true := by kernel_rfl
set_option linter.unusedVariables false in
set_option maxRecDepth 100000 in
theorem lifted (os : Os) (started : os.Started) (H : Type) (enc : TypeId × Value → H) :
    ReturnsInHanded {} Try.checked os 7 .any (Rows.valueApartSpec.pre6 enc Try.prog Try.f7 Rows.valueApartRow.domain false) (Rows.valueApartSpec.post enc Try.prog Try.f7 false true false false) := by
  refine returnsInHanded_of_change_sized (C := Try.checked) own started (by kernel_rfl) Try.func7
    (ChangeSpec.witness6 (enc := enc) (C := Try.checked) false ⟨#[], #[.agg #[.int .i64 0, .int .i64 0, .string ⟨#[]⟩], .agg #[.int .i64 0, .int .i64 0, .string ⟨#[]⟩]], []⟩ 8 (by kernel_rfl) (by kernel_rfl) (by kernel_rfl) (by kernel_rfl)) ?_
  intro W base args ds gs before hval0 hW hcnd hsz0 _
  have hval : ∀ (j : Nat) t v, Try.f7.params[j]? = some t → args[j]? = some v → Value.okWide Try.prog W .any base t v := hval0
  have hsz : (DataW.weightsEach Try.prog (Try.f7.params.toList ++ Rows.valueApartSpec.plain.varTypes Try.prog) (ds ++ gs)).all (· ≤ reachBytes) = true := hsz0
  have hW' := hW
  obtain ⟨p, q, hA0, hV, rfl, hfz, hnd⟩ := hW
  have hA : DataW.TrodAll enc Try.prog W 0 (fun _ => true) true Try.f7.params.toList args.toList ds p := hA0
  rw [Try.params7] at hA hval hsz
  obtain ⟨v0, vs0, d0, ds0, p0, q0, hargs, rfl, rfl, h0, r0⟩ := trodAll_cons hA
  obtain ⟨v1, vs1, d1, ds1, p1, q1, rfl, rfl, rfl, h1, r1⟩ := trodAll_cons r0
  obtain ⟨rfl, rfl, rfl⟩ := trodAll_nil r1
  obtain rfl : args = #[v0, v1] := by cases args; simp_all
  obtain ⟨rfl, rfl⟩ := trodVars_none hV
  obtain ⟨kk0, ii0, ss0, rfl, wk0, wi0, ws0⟩ := open_val_of Try.underlying23 (by kernel_rfl) (by kernel_rfl) Try.underlying3 Try.underlying3 Try.underlying9 (hval 0 23 v0 rfl rfl) h0
  have k0 := h0
  have lt0 : ∀ x ∈ p0, x.block < W.heap.size := by obtain ⟨m, hm⟩ := k0; exact DataW.trod_lt m _ _ _ hm
  obtain ⟨kk1, ii1, ss1, rfl, wk1, wi1, ws1⟩ := open_val_of Try.underlying23 (by kernel_rfl) (by kernel_rfl) Try.underlying3 Try.underlying3 Try.underlying9 (hval 1 23 v1 rfl rfl) h1
  have k1 := h1
  have lt1 : ∀ x ∈ p1, x.block < W.heap.size := by obtain ⟨m, hm⟩ := k1; exact DataW.trod_lt m _ _ _ hm
  clear hA0 hval0
  refine (walk_ValueApart W kk0 ii0 ss0 wk0 wi0 ws0 kk1 ii1 ss1 wk1 wi1 ws1).mono fun e W' ⟨he, bel⟩ => ?_
  subst he
  exact ⟨_, rfl, _, _, _, [], _, [], hW', trodAll_mk1 (shut_bool Try.underlying4 _), (trodAll_cons_mk (Below.trod laidOut (by kernel_rfl) (of_decide_eq_true (by kernel_rfl)) k0 bel lt0) (trodAll_cons_mk (Below.trod laidOut (by kernel_rfl) (of_decide_eq_true (by kernel_rfl)) k1 bel lt1) trodAll_mk0)), rfl, bel.frame _, fun h => by cases h⟩
theorem over : Rows.valueApartRow.holds Try.pinned (OpenSpec.ofChange Rows.valueApartSpec) :=
  OpenClaim.holds_of_wide 7 Try.f7 rfl rfl rfl rfl rfl rfl rfl ⟨rfl, rfl, rfl, rfl, rfl⟩ rfl rfl rfl rfl rfl (by kernel_rfl) Try.func7 (by kernel_rfl)
    (of_decide_eq_true (by kernel_rfl)) (by unfold Func.isWrapper; first | (rw [if_pos (by decide +kernel)]; kernel_rfl) | (rw [if_neg (by decide +kernel)]; exact ⟨rfl, rfl⟩))
    (fun os started H enc _ => lifted os started H enc)
end valueApart
/-- THE STATEMENT. -/
theorem valueApart_holds : Rows.ValueApartSaid := valueApart.over
#print axioms valueApart_holds
end Go.Proofs.Ytkalpobgchnbaaa
