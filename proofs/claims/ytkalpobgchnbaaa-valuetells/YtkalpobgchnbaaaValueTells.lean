/-
  Which values are right, how they stand, and their bytes, are the document's own answer: for every two values and all bytes the call of the law answers true, and all arguments read behind it as they read before. No condition.
-/
import Derived.Test.YtkalpobgchnbaaaVSml
import Derived.Test.YtkalpobgchnbaaaVRef
import Derived.Test.YtkalpobgchnbaaaVRefPut
import Derived.Test.YtkalpobgchnbaaaVArgs
namespace Go.Proofs.Ytkalpobgchnbaaa
open Go.RowKit Go.ChangeShapes Go.WideShapes Go.ChangeAt
theorem tells_out (w : World) (k1 i1 : Int) (t1 : List UInt8) (k2 i2 : Int) (t2 : List UInt8) (A : Option Addr) (len cap : Nat) (h1 : t1.length ≤ 9223372036854775807) (h2 : t2.length ≤ 9223372036854775807) (hm : len ≤ 140737488355328) (hl : 300 < t1.length ∨ 300 < t2.length ∨ 300 < len) :
    Calls Try.prog 3 #[.agg #[.int .i64 k1, .int .i64 i1, .string ⟨t1.toArray⟩], .agg #[.int .i64 k2, .int .i64 i2, .string ⟨t2.toArray⟩], .slice A len cap] w fun e w' => e = .returned (.bool true) ∧ Below w.heap.size w w' := by
  go_enter Try.func3, Try.ntmps3
  go_wp2_with fail
  obtain ⟨hB1, hB2, hb0⟩ := box3x2 w 23 (.int .i64 k1) (.int .i64 i1) (.string ⟨t1.toArray⟩) (.int .i64 k2) (.int .i64 i2) (.string ⟨t2.toArray⟩)
  generalize (w.alloc (.cells #[.int .i64 k1, .int .i64 i1, .string ⟨t1.toArray⟩] 23)).alloc (.cells #[.int .i64 k2, .int .i64 i2, .string ⟨t2.toArray⟩] 23) = w0 at *
  refine (small_any w0).mono ?_
  rintro e w1 ⟨rfl, hb1⟩
  replace hB1 := hB1.below hb1 hB1.lt
  replace hB2 := hB2.below hb1 hB2.lt
  have hbw := below_next hb0 (Nat.le_refl _) hb1
  clear hb0 hb1
  obtain ⟨c0, c1, c2, _, _, _⟩ := blk3 hB1
  obtain ⟨d0, d1, d2, _, _, _⟩ := blk3 hB2
  by_cases a1 : 300 < t1.length
  · have q1 : decide ((300 : Int) < (t1.length : Int)) = true := by simp; omega
    clear hl a1
    go_wp2_with fail
    go_ret
    exact ⟨rfl, hbw⟩
  · have q1 : decide ((300 : Int) < (t1.length : Int)) = false := by simp; omega
    by_cases a2 : 300 < t2.length
    · have q2 : decide ((300 : Int) < (t2.length : Int)) = true := by simp; omega
      clear hl a1 a2
      go_wp2_with fail
      go_ret
      exact ⟨rfl, hbw⟩
    · have q2 : decide ((300 : Int) < (t2.length : Int)) = false := by simp; omega
      have q3 : decide ((300 : Int) < (len : Int)) = true := by simp; omega
      clear hl a1 a2
      go_wp2_with fail
      go_ret
      exact ⟨rfl, hbw⟩
set_option maxRecDepth 100000 in
set_option maxHeartbeats 3200000 in
theorem tells_in (w : World) (k1 i1 : Int) (t1 : List UInt8) (k2 i2 : Int) (t2 : List UInt8) (A : Option Addr) (bs : List UInt8) (len cap : Nat) (h1 : t1.length ≤ 300) (h2 : t2.length ≤ 300) (hm : len ≤ 300) (hn : bs.length = len) (rd : Rd w A bs) (hi1 : -9223372036854775808 ≤ i1) (hi2 : i1 ≤ 9223372036854775807)
    (r : Bool) (z : Int) (x : List UInt8) (L : Nat) (hr : Vals.right k1 i1 t1 = r) (hz : Vals.cmp k1 i1 t1 k2 i2 t2 = z) (hx : bs ++ Vals.lay k1 i1 t1 = x) (hL : len + (Vals.lay k1 i1 t1).length = L) (hL2 : L ≤ 500) :
    Calls Try.prog 3 #[.agg #[.int .i64 k1, .int .i64 i1, .string ⟨t1.toArray⟩], .agg #[.int .i64 k2, .int .i64 i2, .string ⟨t2.toArray⟩], .slice A len cap] w fun e w' => e = .returned (.bool true) ∧ Below w.heap.size w w' := by
  have q1 : decide ((300 : Int) < (t1.length : Int)) = false := by simp; omega
  have q2 : decide ((300 : Int) < (t2.length : Int)) = false := by simp; omega
  have q3 : decide ((300 : Int) < (len : Int)) = false := by simp; omega
  have HXL : Hid (x.length = L) := by show _ = _; rw [← hx, List.length_append, hn]; exact hL
  have HR := Lib.hid hr
  have HZ := Lib.hid hz
  have HX := Lib.hid hx
  have HL := Lib.hid hL
  have HN := Lib.hid hn
  clear hr hz hx hL hn
  go_enter Try.func3, Try.ntmps3
  go_wp2_with fail
  obtain ⟨hB1, hB2, hb0⟩ := box3x2 w 23 (.int .i64 k1) (.int .i64 i1) (.string ⟨t1.toArray⟩) (.int .i64 k2) (.int .i64 i2) (.string ⟨t2.toArray⟩)
  generalize (w.alloc (.cells #[.int .i64 k1, .int .i64 i1, .string ⟨t1.toArray⟩] 23)).alloc (.cells #[.int .i64 k2, .int .i64 i2, .string ⟨t2.toArray⟩] 23) = w0 at *
  refine (small_any w0).mono ?_
  rintro e w1 ⟨rfl, hb1⟩
  replace hB1 := hB1.below hb1 hB1.lt
  replace hB2 := hB2.below hb1 hB2.lt
  have hbw := below_next hb0 (Nat.le_refl _) hb1
  clear hb0 hb1
  obtain ⟨c0, c1, c2, _, _, _⟩ := blk3 hB1
  obtain ⟨d0, d1, d2, _, _, _⟩ := blk3 hB2
  go_wp2_with fail
  clear c0 c1 c2 d0 d1 d2 q1 q2 q3
  have hra := rd.below hbw
  have hkeep : Hid (∀ w', Below w1.heap.size w1 w' → Below w1.heap.size w1 w' ∧ w'.cell? ⟨w.heap.size, 0, none⟩ = some (.int .i64 k1) ∧ w'.cell? ⟨w.heap.size, 1, none⟩ = some (.int .i64 i1) ∧ w'.cell? ⟨w.heap.size, 2, none⟩ = some (.string ⟨t1.toArray⟩) ∧ w'.cell? ⟨(w.heap.size + 1), 0, none⟩ = some (.int .i64 k2) ∧ w'.cell? ⟨(w.heap.size + 1), 1, none⟩ = some (.int .i64 i2) ∧ w'.cell? ⟨(w.heap.size + 1), 2, none⟩ = some (.string ⟨t2.toArray⟩)) := fun w' h => ⟨h, (hB1.below h hB1.lt).cell 0, (hB1.below h hB1.lt).cell 1, (hB1.below h hB1.lt).cell 2, (hB2.below h hB2.lt).cell 0, (hB2.below h hB2.lt).cell 1, (hB2.below h hB2.lt).cell 2⟩
  have hS0 := hkeep.out w1.drew (Below.refl _ _).drew
  refine wp_region_held_drew (S := fun w' => Below w1.heap.size w1 w' ∧ w'.cell? ⟨w.heap.size, 0, none⟩ = some (.int .i64 k1) ∧ w'.cell? ⟨w.heap.size, 1, none⟩ = some (.int .i64 i1) ∧ w'.cell? ⟨w.heap.size, 2, none⟩ = some (.string ⟨t1.toArray⟩) ∧ w'.cell? ⟨(w.heap.size + 1), 0, none⟩ = some (.int .i64 k2) ∧ w'.cell? ⟨(w.heap.size + 1), 1, none⟩ = some (.int .i64 i2) ∧ w'.cell? ⟨(w.heap.size + 1), 2, none⟩ = some (.string ⟨t2.toArray⟩)) (by kernel_rfl) hS0 (fun _ => ?_)
  refine wpAnyH_yes (i := 0) (d := 25) (v := ?_) rfl rfl (by kernel_rfl) (by kernel_rfl) (by kernel_rfl) (fun _ _ _ h => h) (by rfl) ?_ hS0 ?_
  rotate_left
  · intro w' hSw; go_simp <;> with_reducible rfl
  simp only [Act.put, List.setIfInBounds_toArray, List.set_cons_zero, List.set_cons_succ]
  refine wpAnyH_yes (i := 1) (d := 26) (v := ?_) rfl rfl (by kernel_rfl) (by kernel_rfl) (by kernel_rfl) (fun _ _ _ h => h) (by rfl) ?_ hS0 ?_
  rotate_left
  · intro w' hSw; go_simp <;> with_reducible rfl
  simp only [Act.put, List.setIfInBounds_toArray, List.set_cons_zero, List.set_cons_succ]
  refine wpAnyH_yes (i := 2) (d := 27) (v := ?_) rfl rfl (by kernel_rfl) (by kernel_rfl) (by kernel_rfl) (fun _ _ _ h => h) (by rfl) ?_ hS0 ?_
  rotate_left
  · intro w' hSw; go_simp <;> with_reducible rfl
  simp only [Act.put, List.setIfInBounds_toArray, List.set_cons_zero, List.set_cons_succ]
  refine wpAnyH_yes (i := 4) (d := 29) (v := ?_) rfl rfl (by kernel_rfl) (by kernel_rfl) (by kernel_rfl) (fun _ _ _ h => h) (by rfl) ?_ hS0 ?_
  rotate_left
  · intro w' hSw; go_simp <;> with_reducible rfl
  simp only [Act.put, List.setIfInBounds_toArray, List.set_cons_zero, List.set_cons_succ]
  refine wpAnyH_one (i := 3) (by kernel_rfl) rfl (by rfl) (fun Kx hK1 => ?_)
  go_simp
  with_reducible refine (right_is k1 i1 t1 _ (by omega) r HR.out).mono ?_
  rintro e w2 ⟨rfl, hb2⟩
  have hS1 := hkeep.out _ (below_next hS0.1 (Nat.le_refl _) hb2)
  go_wp2_with fail
  refine hK1.out _ _ hS1 ?_
  refine wpAnyH_one (i := 5) (by kernel_rfl) rfl (by rfl) (fun Kx hK2 => ?_)
  go_simp
  with_reducible refine (refRight_is k1 i1 t1 _ (by omega) r HR.out).mono ?_
  rintro e w3 ⟨rfl, hb3⟩
  have hS2 := hkeep.out _ (below_next hS1.1 (Nat.le_refl _) hb3)
  go_wp2_with fail
  refine hK2.out _ _ hS2 ?_
  refine wpAnyH_yes (i := 6) (d := 31) (v := ?_) rfl rfl (by kernel_rfl) (by kernel_rfl) (by kernel_rfl) (fun _ _ _ h => h) (by rfl) ?_ hS2 ?_
  rotate_left
  · intro w' hSw; go_simp <;> with_reducible rfl
  simp only [Act.put, List.setIfInBounds_toArray, List.set_cons_zero, List.set_cons_succ]
  refine wpAnyH_yes (i := 7) (d := 32) (v := ?_) rfl rfl (by kernel_rfl) (by kernel_rfl) (by kernel_rfl) (fun _ _ _ h => h) (by rfl) ?_ hS2 ?_
  rotate_left
  · intro w' hSw; go_simp <;> with_reducible rfl
  simp only [Act.put, List.setIfInBounds_toArray, List.set_cons_zero, List.set_cons_succ]
  refine wpAnyH_yes (i := 8) (d := 33) (v := ?_) rfl rfl (by kernel_rfl) (by kernel_rfl) (by kernel_rfl) (fun _ _ _ h => h) (by rfl) ?_ hS2 ?_
  rotate_left
  · intro w' hSw; go_simp <;> with_reducible rfl
  simp only [Act.put, List.setIfInBounds_toArray, List.set_cons_zero, List.set_cons_succ]
  refine wpAnyH_yes (i := 9) (d := 34) (v := ?_) rfl rfl (by kernel_rfl) (by kernel_rfl) (by kernel_rfl) (fun _ _ _ h => h) (by rfl) ?_ hS2 ?_
  rotate_left
  · intro w' hSw; go_simp <;> with_reducible rfl
  simp only [Act.put, List.setIfInBounds_toArray, List.set_cons_zero, List.set_cons_succ]
  refine wpAnyH_yes (i := 10) (d := 35) (v := ?_) rfl rfl (by kernel_rfl) (by kernel_rfl) (by kernel_rfl) (fun _ _ _ h => h) (by rfl) ?_ hS2 ?_
  rotate_left
  · intro w' hSw; go_simp <;> with_reducible rfl
  simp only [Act.put, List.setIfInBounds_toArray, List.set_cons_zero, List.set_cons_succ]
  refine wpAnyH_yes (i := 12) (d := 37) (v := ?_) rfl rfl (by kernel_rfl) (by kernel_rfl) (by kernel_rfl) (fun _ _ _ h => h) (by rfl) ?_ hS2 ?_
  rotate_left
  · intro w' hSw; go_simp <;> with_reducible rfl
  simp only [Act.put, List.setIfInBounds_toArray, List.set_cons_zero, List.set_cons_succ]
  refine wpAnyH_yes (i := 13) (d := 38) (v := ?_) rfl rfl (by kernel_rfl) (by kernel_rfl) (by kernel_rfl) (fun _ _ _ h => h) (by rfl) ?_ hS2 ?_
  rotate_left
  · intro w' hSw; go_simp <;> with_reducible rfl
  simp only [Act.put, List.setIfInBounds_toArray, List.set_cons_zero, List.set_cons_succ]
  refine wpAnyH_one (i := 11) (by kernel_rfl) rfl (by rfl) (fun Kx hK3 => ?_)
  go_simp
  with_reducible refine (compare_is k1 i1 t1 k2 i2 t2 z HZ.out _).mono ?_
  rintro e w4 ⟨rfl, hb4⟩
  have hS3 := hkeep.out _ (below_next hS2.1 (Nat.le_refl _) hb4)
  go_wp2_with fail
  refine hK3.out _ _ hS3 ?_
  refine wpAnyH_one (i := 14) (by kernel_rfl) rfl (by rfl) (fun Kx hK4 => ?_)
  go_simp
  with_reducible refine (refCompare_is k1 i1 t1 k2 i2 t2 z HZ.out (by omega) (by omega) _).mono ?_
  rintro e w5 ⟨rfl, hb5⟩
  have hS4 := hkeep.out _ (below_next hS3.1 (Nat.le_refl _) hb5)
  go_wp2_with fail
  refine hK4.out _ _ hS4 ?_
  refine wpAnyH_yes (i := 15) (d := 40) (v := ?_) rfl rfl (by kernel_rfl) (by kernel_rfl) (by kernel_rfl) (fun _ _ _ h => h) (by rfl) ?_ hS4 ?_
  rotate_left
  · intro w' hSw; go_simp <;> with_reducible rfl
  simp only [Act.put, List.setIfInBounds_toArray, List.set_cons_zero, List.set_cons_succ]
  refine wpAnyH_yes (i := 16) (d := 41) (v := ?_) rfl rfl (by kernel_rfl) (by kernel_rfl) (by kernel_rfl) (fun _ _ _ h => h) (by rfl) ?_ hS4 ?_
  rotate_left
  · intro w' hSw; go_simp <;> with_reducible rfl
  simp only [Act.put, List.setIfInBounds_toArray, List.set_cons_zero, List.set_cons_succ]
  refine wpAnyH_yes (i := 17) (d := 42) (v := ?_) rfl rfl (by kernel_rfl) (by kernel_rfl) (by kernel_rfl) (fun _ _ _ h => h) (by rfl) ?_ hS4 ?_
  rotate_left
  · intro w' hSw; go_simp <;> with_reducible rfl
  simp only [Act.put, List.setIfInBounds_toArray, List.set_cons_zero, List.set_cons_succ]
  refine wpAnyH_yes (i := 18) (d := 43) (v := ?_) rfl rfl (by kernel_rfl) (by kernel_rfl) (by kernel_rfl) (fun _ _ _ h => h) (by rfl) ?_ hS4 ?_
  rotate_left
  · intro w' hSw; go_simp <;> with_reducible rfl
  simp only [Act.put, List.setIfInBounds_toArray, List.set_cons_zero, List.set_cons_succ]
  refine wpAnyH_yes (i := 19) (d := 44) (v := ?_) rfl rfl (by kernel_rfl) (by kernel_rfl) (by kernel_rfl) (fun _ _ _ h => h) (by rfl) ?_ hS4 ?_
  rotate_left
  · intro w' hSw; go_simp <;> with_reducible rfl
  simp only [Act.put, List.setIfInBounds_toArray, List.set_cons_zero, List.set_cons_succ]
  refine wpAnyH_yes (i := 22) (d := 47) (v := ?_) rfl rfl (by kernel_rfl) (by kernel_rfl) (by kernel_rfl) (fun _ _ _ h => h) (by rfl) ?_ hS4 ?_
  rotate_left
  · intro w' hSw; go_simp <;> with_reducible rfl
  simp only [Act.put, List.setIfInBounds_toArray, List.set_cons_zero, List.set_cons_succ]
  refine wpAnyH_yes (i := 23) (d := 48) (v := ?_) rfl rfl (by kernel_rfl) (by kernel_rfl) (by kernel_rfl) (fun _ _ _ h => h) (by rfl) ?_ hS4 ?_
  rotate_left
  · intro w' hSw; go_simp <;> with_reducible rfl
  simp only [Act.put, List.setIfInBounds_toArray, List.set_cons_zero, List.set_cons_succ]
  refine wpAnyH_one (i := 20) (by kernel_rfl) rfl (by rfl) (fun Kx hK5 => ?_)
  go_simp
  with_reducible refine (vput_at A bs len cap L k1 i1 t1 HN.out HL.out (by omega) hi1 hi2 (by omega) _ (hra.below hS4.1)).mono ?_
  rintro e w6 ⟨D1, e1, rfl, _, hb6, hr6⟩
  rw [HX.out] at hr6
  have hb6' := below_next hS4.1 (Nat.le_refl _) hb6
  have hS5 := hkeep.out w6 hb6'
  go_wp2_with fail
  refine hK5.out _ _ hS5 ?_
  have hkeep2 : Hid (∀ w', Below w6.heap.size w6 w' → Below w1.heap.size w1 w' ∧ w'.cell? ⟨w.heap.size, 0, none⟩ = some (.int .i64 k1) ∧ w'.cell? ⟨w.heap.size, 1, none⟩ = some (.int .i64 i1) ∧ w'.cell? ⟨w.heap.size, 2, none⟩ = some (.string ⟨t1.toArray⟩) ∧ w'.cell? ⟨(w.heap.size + 1), 0, none⟩ = some (.int .i64 k2) ∧ w'.cell? ⟨(w.heap.size + 1), 1, none⟩ = some (.int .i64 i2) ∧ w'.cell? ⟨(w.heap.size + 1), 2, none⟩ = some (.string ⟨t2.toArray⟩) ∧ Sem.run Try.prog (convert 24 9 (.slice D1 L e1)) w' = .ok (.string ⟨(x).toArray⟩) w' ∧ Below w6.heap.size w6 w') := fun w' h => by
    obtain ⟨s0, s1, s2, s3, s4, s5, s6⟩ := hkeep.out w' (below_next hb6' (Nat.le_refl _) h)
    exact ⟨s0, s1, s2, s3, s4, s5, s6, str_below e1 hr6 HXL.out h, h⟩
  refine wpAnyH_more (S' := fun w' => Below w1.heap.size w1 w' ∧ w'.cell? ⟨w.heap.size, 0, none⟩ = some (.int .i64 k1) ∧ w'.cell? ⟨w.heap.size, 1, none⟩ = some (.int .i64 i1) ∧ w'.cell? ⟨w.heap.size, 2, none⟩ = some (.string ⟨t1.toArray⟩) ∧ w'.cell? ⟨(w.heap.size + 1), 0, none⟩ = some (.int .i64 k2) ∧ w'.cell? ⟨(w.heap.size + 1), 1, none⟩ = some (.int .i64 i2) ∧ w'.cell? ⟨(w.heap.size + 1), 2, none⟩ = some (.string ⟨t2.toArray⟩) ∧ Sem.run Try.prog (convert 24 9 (.slice D1 L e1)) w' = .ok (.string ⟨(x).toArray⟩) w' ∧ Below w6.heap.size w6 w') (fun w' h => ⟨h.1, h.2.1, h.2.2.1, h.2.2.2.1, h.2.2.2.2.1, h.2.2.2.2.2.1, h.2.2.2.2.2.2.1⟩) _ _ _ _ ?_
  have hS6 := hkeep2.out w6 (Below.refl _ _)
  refine wpAnyH_yes (i := 21) (d := 46) (v := ?_) rfl rfl (by kernel_rfl) (by kernel_rfl) (by kernel_rfl) (fun _ _ _ h => h) (by rfl) ?_ hS6 ?_
  rotate_left
  · intro w' hSw; go_simp <;> with_reducible rfl
  simp only [Act.put, List.setIfInBounds_toArray, List.set_cons_zero, List.set_cons_succ]
  refine wpAnyH_one (i := 24) (by kernel_rfl) rfl (by rfl) (fun Kx hK6 => ?_)
  go_simp
  with_reducible refine (rvput_at A bs len cap L k1 i1 t1 HN.out HL.out (by omega) hi1 hi2 (by omega) _ (hra.below hS6.1)).mono ?_
  rintro e w7 ⟨D2, e2, rfl, hb7, hr7⟩
  rw [HX.out] at hr7
  have hst := str_below e2 hr7 HXL.out (Below.refl _ _)
  have hS7 := hkeep2.out w7 hb7
  go_wp2_with fail
  refine hK6.out _ _ hS7 ?_
  refine wpAnyH_one (i := 25) (by kernel_rfl) rfl (by rfl) (fun K hKc => ?_)
  go_simp
  refine hKc.out _ _ hS7 ?_
  refine wpAnyH_yes (i := 26) (d := 51) (v := ?_) rfl rfl (by kernel_rfl) (by kernel_rfl) (by kernel_rfl) (fun _ _ _ h => h) (by rfl) ?_ hS7 ?_
  rotate_left
  · intro w' hSw; go_simp <;> with_reducible rfl
  simp only [Act.put, List.setIfInBounds_toArray, List.set_cons_zero, List.set_cons_succ]
  refine wpAnyH_yes (i := 27) (d := 52) (v := ?_) rfl rfl (by kernel_rfl) (by kernel_rfl) (by kernel_rfl) (fun _ _ _ h => h) (by rfl) ?_ hS7 ?_
  rotate_left
  · intro w' hSw; go_simp <;> with_reducible rfl
  simp only [Act.put, List.setIfInBounds_toArray, List.set_cons_zero, List.set_cons_succ]
  refine wpAnyH_yes (i := 28) (d := 6) (v := ?_) rfl rfl (by kernel_rfl) (by kernel_rfl) (by kernel_rfl) (fun _ _ _ h => h) (by rfl) ?_ hS7 ?_
  rotate_left
  · intro w' hSw; go_simp <;> with_reducible rfl
  simp only [Act.put, List.setIfInBounds_toArray, List.set_cons_zero, List.set_cons_succ]
  refine wpAnyH_done (by kernel_rfl) ?_ _
  have hbl := below_next hbw (Nat.le_refl _) hS7.1
  go_wp2_with fail
  go_ret
  exact ⟨rfl, hbl⟩
theorem walk_ValueTells (w : World) (k1 i1 : Int) (t1 : List UInt8) (_ : (Lit.int .i64 k1).wf = true) (w1 : (Lit.int .i64 i1).wf = true) (h1 : t1.length ≤ maxLen) (k2 i2 : Int) (t2 : List UInt8) (_ : (Lit.int .i64 k2).wf = true) (_ : (Lit.int .i64 i2).wf = true) (h2 : t2.length ≤ maxLen)
    (A : Option Addr) (bs : List UInt8) (len cap : Nat) (hl : bs.length = len) (_hc : len ≤ cap) (hm : cap ≤ 140737488351232) (rd : Rd w A bs) :
    Calls Try.prog 3 #[.agg #[.int .i64 k1, .int .i64 i1, .string ⟨t1.toArray⟩], .agg #[.int .i64 k2, .int .i64 i2, .string ⟨t2.toArray⟩], .slice A len cap] w fun e w' => e = .returned (.bool true) ∧ Below w.heap.size w w' := by
  unfold maxLen at h1 h2
  have b1 := bounds_i64 w1
  have hL := Vals.lay_len k1 i1 t1 b1.1 b1.2
  by_cases hout : 300 < t1.length ∨ 300 < t2.length ∨ 300 < len
  · exact tells_out w k1 i1 t1 k2 i2 t2 A len cap (by omega) (by omega) (by omega) hout
  · exact tells_in w k1 i1 t1 k2 i2 t2 A bs len cap (by omega) (by omega) (by omega) hl rd b1.1 b1.2 _ _ _ _ rfl rfl rfl rfl (by omega)

/-! ### The row's step. -/
namespace valueTells
theorem own : ownKnob Try.prog.godebug = none := by kernel_rfl
theorem laidOut : laidOutB Try.prog = true := by kernel_rfl
set_option linter.unusedVariables false in
set_option maxRecDepth 100000 in
theorem lifted (os : Os) (started : os.Started) (H : Type) (enc : TypeId × Value → H) :
    ReturnsInHanded {} Try.checked os 3 .any (Rows.valueTellsSpec.pre6 enc Try.prog Try.f3 Rows.valueTellsRow.domain false) (Rows.valueTellsSpec.post enc Try.prog Try.f3 false true false false) := by
  refine returnsInHanded_of_change_sized (C := Try.checked) own started (by kernel_rfl) Try.func3
    (ChangeSpec.witness6 (enc := enc) (C := Try.checked) false ⟨#[], #[.agg #[.int .i64 0, .int .i64 0, .string ⟨#[]⟩], .agg #[.int .i64 0, .int .i64 0, .string ⟨#[]⟩], .slice none 0 0], []⟩ 8 (by kernel_rfl) (by kernel_rfl) (by kernel_rfl) (by kernel_rfl)) ?_
  intro W base args ds gs before hval0 hW hcnd hsz0 _
  have hval : ∀ (j : Nat) t v, Try.f3.params[j]? = some t → args[j]? = some v → Value.okWide Try.prog W .any base t v := hval0
  have hsz : (DataW.weightsEach Try.prog (Try.f3.params.toList ++ Rows.valueTellsSpec.plain.varTypes Try.prog) (ds ++ gs)).all (· ≤ reachBytes) = true := hsz0
  have hW' := hW
  obtain ⟨p, q, hA0, hV, rfl, hfz, hnd⟩ := hW
  have hA : DataW.TrodAll enc Try.prog W 0 (fun _ => true) true Try.f3.params.toList args.toList ds p := hA0
  rw [Try.params3] at hA hval hsz
  obtain ⟨v0, vs0, d0, ds0, p0, q0, hargs, rfl, rfl, h0, r0⟩ := trodAll_cons hA
  obtain ⟨v1, vs1, d1, ds1, p1, q1, rfl, rfl, rfl, h1, r1⟩ := trodAll_cons r0
  obtain ⟨v2, vs2, d2, ds2, p2, q2, rfl, rfl, rfl, h2, r2⟩ := trodAll_cons r1
  obtain ⟨rfl, rfl, rfl⟩ := trodAll_nil r2
  obtain rfl : args = #[v0, v1, v2] := by cases args; simp_all
  obtain ⟨rfl, rfl⟩ := trodVars_none hV
  obtain ⟨kk0, ii0, ss0, rfl, wk0, wi0, ws0⟩ := open_val_of Try.underlying23 (by kernel_rfl) (by kernel_rfl) Try.underlying3 Try.underlying3 Try.underlying9 (hval 0 23 v0 rfl rfl) h0
  have k0 := h0
  have lt0 : ∀ x ∈ p0, x.block < W.heap.size := by obtain ⟨m, hm⟩ := k0; exact DataW.trod_lt m _ _ _ hm
  obtain ⟨kk1, ii1, ss1, rfl, wk1, wi1, ws1⟩ := open_val_of Try.underlying23 (by kernel_rfl) (by kernel_rfl) Try.underlying3 Try.underlying3 Try.underlying9 (hval 1 23 v1 rfl rfl) h1
  have k1 := h1
  have lt1 : ∀ x ∈ p1, x.block < W.heap.size := by obtain ⟨m, hm⟩ := k1; exact DataW.trod_lt m _ _ _ hm
  obtain ⟨a2, len2, cap2, rfl⟩ := okWide_slice Try.underlying24 (hval 2 24 v2 rfl rfl)
  have k2 := h2
  have lt2 : ∀ x ∈ p2, x.block < W.heap.size := by obtain ⟨m, hm⟩ := k2; exact DataW.trod_lt m _ _ _ hm
  obtain ⟨bs2, hl2, hc2, hm2, rd2⟩ : ∃ bs : List UInt8, bs.length = len2 ∧ len2 ≤ cap2 ∧ cap2 ≤ 140737488351232 ∧ Rd W a2 bs := by
    obtain ⟨fuel, hf⟩ := h2
    rcases open_ints Try.underlying24 Try.underlying5 (by kernel_rfl) hf with ⟨hcs, _⟩ | ⟨x, l, c, zs, hcs, _, hl, hm, hz, hx, hcell, hwz⟩
    · simp [Value.cells] at hcs
      obtain ⟨rfl, rfl, rfl⟩ := hcs
      exact ⟨[], rfl, by omega, by omega, .inl rfl⟩
    · simp [Value.cells] at hcs
      obtain ⟨rfl, rfl, rfl⟩ := hcs
      have hz' : zs.length = cap2 := by simpa using hz
      have hd : d2 = .slice (lits .u8 (zs.take len2)) (lits .u8 (zs.drop len2)) := congrArg Prod.fst hx
      have hb := sized_slice hsz (j := 2) (t := 24) (elems := lits .u8 (zs.take len2)) (spare := lits .u8 (zs.drop len2)) rfl (by rw [hd]; rfl) Try.underlying24
      have hb' : cap2 ≤ 140737488351232 := by
        rw [show Try.prog.bytesOf 5 = 1 from by kernel_rfl] at hb
        simp [lits, reachBytes] at hb; omega
      obtain ⟨bs, e1, e2⟩ := rd_of_ints hl hz' hcell hwz
      exact ⟨bs, e1, hl, hb', e2⟩
  clear hA0 hval0
  refine (walk_ValueTells W kk0 ii0 ss0 wk0 wi0 ws0 kk1 ii1 ss1 wk1 wi1 ws1 a2 bs2 len2 cap2 hl2 hc2 hm2 rd2).mono fun e W' ⟨he, bel⟩ => ?_
  subst he
  exact ⟨_, rfl, _, _, _, [], _, [], hW', trodAll_mk1 (shut_bool Try.underlying4 _), (trodAll_cons_mk (Below.trod laidOut (by kernel_rfl) (of_decide_eq_true (by kernel_rfl)) k0 bel lt0) (trodAll_cons_mk (Below.trod laidOut (by kernel_rfl) (of_decide_eq_true (by kernel_rfl)) k1 bel lt1) (trodAll_cons_mk (Below.trod laidOut (by kernel_rfl) (of_decide_eq_true (by kernel_rfl)) k2 bel lt2) trodAll_mk0))), rfl, bel.frame _, fun h => by cases h⟩
theorem over : Rows.valueTellsRow.holds Try.pinned (OpenSpec.ofChange Rows.valueTellsSpec) :=
  OpenClaim.holds_of_wide 3 Try.f3 rfl rfl rfl rfl rfl rfl rfl ⟨rfl, rfl, rfl, rfl, rfl⟩ rfl rfl rfl rfl rfl (by kernel_rfl) Try.func3 (by kernel_rfl)
    (of_decide_eq_true (by kernel_rfl)) (by unfold Func.isWrapper; first | (rw [if_pos (by decide +kernel)]; kernel_rfl) | (rw [if_neg (by decide +kernel)]; exact ⟨rfl, rfl⟩))
    (fun os started H enc _ => lifted os started H enc)
end valueTells
/-- THE STATEMENT. -/
theorem valueTells_holds : Rows.ValueTellsSaid := valueTells.over
#print axioms valueTells_holds
end Go.Proofs.Ytkalpobgchnbaaa
