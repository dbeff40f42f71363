/- Package value: Compare. -/
import Derived.Test.YtcgmbgfbhdimeaaVCmp
import Derived.Test.YtcgmbgfbhdimeaaGrow
namespace Go.Proofs.Ytcgmbgfbhdimeaa
open Go.RowKit
theorem Grown.drew {w w' : World} (h : Grown w w') : Grown w w'.drew := h.trans ⟨1, #[], by rw [Go.Sort.grow_empty]; rfl⟩
set_option maxRecDepth 100000 in
set_option maxHeartbeats 800000 in
theorem compare_gr (k i : Int) (t : List UInt8) (k' i' : Int) (t' : List UInt8) (w : World) :
    Calls Try.prog 49 #[.agg #[.int .i64 k, .int .i64 i, .string ⟨t.toArray⟩], .agg #[.int .i64 k', .int .i64 i', .string ⟨t'.toArray⟩]] w fun e w' => e = .returned (.int .i64 (Vals.cmp k i t k' i' t')) ∧ Grown w w' := by
  go_enter Try.func49, Try.ntmps49
  go_wp2_with fail
  have hB1 : Blk ((w.alloc (.cells #[.int .i64 k, .int .i64 i, .string ⟨t.toArray⟩] 24)).alloc (.cells #[.int .i64 k', .int .i64 i', .string ⟨t'.toArray⟩] 24)) w.heap.size 24 #[.int .i64 k, .int .i64 i, .string ⟨t.toArray⟩] := (Blk.new w _ _).alloc _
  have hB2 : Blk ((w.alloc (.cells #[.int .i64 k, .int .i64 i, .string ⟨t.toArray⟩] 24)).alloc (.cells #[.int .i64 k', .int .i64 i', .string ⟨t'.toArray⟩] 24)) (w.heap.size + 1) 24 #[.int .i64 k', .int .i64 i', .string ⟨t'.toArray⟩] := by
    have := Blk.new (w.alloc (.cells #[.int .i64 k, .int .i64 i, .string ⟨t.toArray⟩] 24)) 24 #[.int .i64 k', .int .i64 i', .string ⟨t'.toArray⟩]
    simpa using this
  have hb : Grown w ((w.alloc (.cells #[.int .i64 k, .int .i64 i, .string ⟨t.toArray⟩] 24)).alloc (.cells #[.int .i64 k', .int .i64 i', .string ⟨t'.toArray⟩] 24)) := ((Grown.refl _).alloc _).alloc _
  generalize ((w.alloc (.cells #[.int .i64 k, .int .i64 i, .string ⟨t.toArray⟩] 24)).alloc (.cells #[.int .i64 k', .int .i64 i', .string ⟨t'.toArray⟩] 24)) = w2 at *
  have hkeep : Hid (∀ w', Grown w2 w' → Grown w2 w' ∧ w'.cell? ⟨w.heap.size, 0, none⟩ = some (.int .i64 k) ∧ w'.cell? ⟨w.heap.size, 1, none⟩ = some (.int .i64 i) ∧ w'.cell? ⟨w.heap.size, 2, none⟩ = some (.string ⟨t.toArray⟩) ∧ w'.cell? ⟨(w.heap.size + 1), 0, none⟩ = some (.int .i64 k') ∧ w'.cell? ⟨(w.heap.size + 1), 1, none⟩ = some (.int .i64 i') ∧ w'.cell? ⟨(w.heap.size + 1), 2, none⟩ = some (.string ⟨t'.toArray⟩)) := fun w' h => ⟨h, (hB1.below h.below hB1.lt).cell 0, (hB1.below h.below hB1.lt).cell 1, (hB1.below h.below hB1.lt).cell 2, (hB2.below h.below hB2.lt).cell 0, (hB2.below h.below hB2.lt).cell 1, (hB2.below h.below hB2.lt).cell 2⟩
  have hS0 := hkeep.out w2.drew (Grown.refl _).drew
  refine wp_region_held_drew (S := fun w' => Grown w2 w' ∧ w'.cell? ⟨w.heap.size, 0, none⟩ = some (.int .i64 k) ∧ w'.cell? ⟨w.heap.size, 1, none⟩ = some (.int .i64 i) ∧ w'.cell? ⟨w.heap.size, 2, none⟩ = some (.string ⟨t.toArray⟩) ∧ w'.cell? ⟨(w.heap.size + 1), 0, none⟩ = some (.int .i64 k') ∧ w'.cell? ⟨(w.heap.size + 1), 1, none⟩ = some (.int .i64 i') ∧ w'.cell? ⟨(w.heap.size + 1), 2, none⟩ = some (.string ⟨t'.toArray⟩)) (by kernel_rfl) hS0 (fun _ => ?_)
  refine wpAnyH_yes (i := 0) (d := 5) (v := ?_) rfl rfl (by kernel_rfl) (by kernel_rfl) (by kernel_rfl) (fun _ _ _ h => h) (by rfl) ?_ hS0 ?_
  rotate_left
  · intro w' hSw; go_simp <;> with_reducible rfl
  simp only [Act.put, List.setIfInBounds_toArray, List.set_cons_zero, List.set_cons_succ]
  refine wpAnyH_yes (i := 1) (d := 6) (v := ?_) rfl rfl (by kernel_rfl) (by kernel_rfl) (by kernel_rfl) (fun _ _ _ h => h) (by rfl) ?_ hS0 ?_
  rotate_left
  · intro w' hSw; go_simp <;> with_reducible rfl
  simp only [Act.put, List.setIfInBounds_toArray, List.set_cons_zero, List.set_cons_succ]
  refine wpAnyH_yes (i := 2) (d := 7) (v := ?_) rfl rfl (by kernel_rfl) (by kernel_rfl) (by kernel_rfl) (fun _ _ _ h => h) (by rfl) ?_ hS0 ?_
  rotate_left
  · intro w' hSw; go_simp <;> with_reducible rfl
  simp only [Act.put, List.setIfInBounds_toArray, List.set_cons_zero, List.set_cons_succ]
  refine wpAnyH_yes (i := 3) (d := 8) (v := ?_) rfl rfl (by kernel_rfl) (by kernel_rfl) (by kernel_rfl) (fun _ _ _ h => h) (by rfl) ?_ hS0 ?_
  rotate_left
  · intro w' hSw; go_simp <;> with_reducible rfl
  simp only [Act.put, List.setIfInBounds_toArray, List.set_cons_zero, List.set_cons_succ]
  refine wpAnyH_yes (i := 5) (d := 10) (v := ?_) rfl rfl (by kernel_rfl) (by kernel_rfl) (by kernel_rfl) (fun _ _ _ h => h) (by rfl) ?_ hS0 ?_
  rotate_left
  · intro w' hSw; go_simp <;> with_reducible rfl
  simp only [Act.put, List.setIfInBounds_toArray, List.set_cons_zero, List.set_cons_succ]
  refine wpAnyH_yes (i := 6) (d := 11) (v := ?_) rfl rfl (by kernel_rfl) (by kernel_rfl) (by kernel_rfl) (fun _ _ _ h => h) (by rfl) ?_ hS0 ?_
  rotate_left
  · intro w' hSw; go_simp <;> with_reducible rfl
  simp only [Act.put, List.setIfInBounds_toArray, List.set_cons_zero, List.set_cons_succ]
  refine wpAnyH_yes (i := 7) (d := 12) (v := ?_) rfl rfl (by kernel_rfl) (by kernel_rfl) (by kernel_rfl) (fun _ _ _ h => h) (by rfl) ?_ hS0 ?_
  rotate_left
  · intro w' hSw; go_simp <;> with_reducible rfl
  simp only [Act.put, List.setIfInBounds_toArray, List.set_cons_zero, List.set_cons_succ]
  refine wpAnyH_yes (i := 8) (d := 13) (v := ?_) rfl rfl (by kernel_rfl) (by kernel_rfl) (by kernel_rfl) (fun _ _ _ h => h) (by rfl) ?_ hS0 ?_
  rotate_left
  · intro w' hSw; go_simp <;> with_reducible rfl
  simp only [Act.put, List.setIfInBounds_toArray, List.set_cons_zero, List.set_cons_succ]
  refine wpAnyH_yes (i := 10) (d := 15) (v := ?_) rfl rfl (by kernel_rfl) (by kernel_rfl) (by kernel_rfl) (fun _ _ _ h => h) (by rfl) ?_ hS0 ?_
  rotate_left
  · intro w' hSw; go_simp <;> with_reducible rfl
  simp only [Act.put, List.setIfInBounds_toArray, List.set_cons_zero, List.set_cons_succ]
  refine wpAnyH_yes (i := 11) (d := 16) (v := ?_) rfl rfl (by kernel_rfl) (by kernel_rfl) (by kernel_rfl) (fun _ _ _ h => h) (by rfl) ?_ hS0 ?_
  rotate_left
  · intro w' hSw; go_simp <;> with_reducible rfl
  simp only [Act.put, List.setIfInBounds_toArray, List.set_cons_zero, List.set_cons_succ]
  refine wpAnyH_yes (i := 12) (d := 17) (v := ?_) rfl rfl (by kernel_rfl) (by kernel_rfl) (by kernel_rfl) (fun _ _ _ h => h) (by rfl) ?_ hS0 ?_
  rotate_left
  · intro w' hSw; go_simp <;> with_reducible rfl
  simp only [Act.put, List.setIfInBounds_toArray, List.set_cons_zero, List.set_cons_succ]
  refine wpAnyH_yes (i := 13) (d := 18) (v := ?_) rfl rfl (by kernel_rfl) (by kernel_rfl) (by kernel_rfl) (fun _ _ _ h => h) (by rfl) ?_ hS0 ?_
  rotate_left
  · intro w' hSw; go_simp <;> with_reducible rfl
  simp only [Act.put, List.setIfInBounds_toArray, List.set_cons_zero, List.set_cons_succ]
  refine wpAnyH_one (i := 4) (by kernel_rfl) rfl (by rfl) (fun K hK1 => ?_)
  go_simp
  with_reducible refine (cmpInt_at k k' _).mono ?_
  rintro e w' ⟨rfl, rfl⟩
  go_wp2_with fail
  refine hK1.out _ _ hS0 ?_
  refine wpAnyH_one (i := 9) (by kernel_rfl) rfl (by rfl) (fun K hK2 => ?_)
  go_simp
  with_reducible refine (cmpInt_at i i' _).mono ?_
  rintro e w' ⟨rfl, rfl⟩
  go_wp2_with fail
  refine hK2.out _ _ hS0 ?_
  refine wpAnyH_one (i := 14) (by kernel_rfl) rfl (by rfl) (fun K hK3 => ?_)
  go_simp
  with_reducible refine (cmpText_at t t' _).mono ?_
  rintro e w' ⟨rfl, rfl⟩
  go_wp2_with fail
  refine hK3.out _ _ hS0 ?_
  refine wpAnyH_one (i := 15) (by kernel_rfl) rfl (by rfl) (fun K hKb => ?_)
  go_simp
  have hbn : Grown w2 (w2.alloc (.cells #[.int .i64 (Vals.cmpI k k'), .int .i64 (Vals.cmpI i i'), .int .i64 (Vals.cmpT t t')] 3)).drew := ((Grown.refl _).alloc _).drew
  have hBn : Blk (w2.alloc (.cells #[.int .i64 (Vals.cmpI k k'), .int .i64 (Vals.cmpI i i'), .int .i64 (Vals.cmpT t t')] 3)).drew w2.heap.size 3 #[.int .i64 (Vals.cmpI k k'), .int .i64 (Vals.cmpI i i'), .int .i64 (Vals.cmpT t t')] := Blk.new w2 _ _
  generalize (w2.alloc (.cells #[.int .i64 (Vals.cmpI k k'), .int .i64 (Vals.cmpI i i'), .int .i64 (Vals.cmpT t t')] 3)).drew = w3 at *
  have hS1 := hkeep.out w3 hbn
  refine hKb.out _ _ hS1 ?_
  refine wpAnyH_one (i := 16) (by kernel_rfl) rfl (by rfl) (fun K hK4 => ?_)
  go_simp
  with_reducible refine (or_at _ _ _ _ _ hBn).mono ?_
  rintro e w' ⟨rfl, rfl⟩
  go_wp2_with fail
  refine hK4.out _ _ hS1 ?_
  refine wpAnyH_yes (i := 17) (d := 4) (v := ?_) rfl rfl (by kernel_rfl) (by kernel_rfl) (by kernel_rfl) (fun _ _ _ h => h) (by rfl) ?_ hS1 ?_
  rotate_left
  · intro w' hSw; go_simp <;> with_reducible rfl
  simp only [Act.put, List.setIfInBounds_toArray, List.set_cons_zero, List.set_cons_succ]
  refine wpAnyH_done (by kernel_rfl) ?_ _
  go_wp2_with fail
  go_ret
  exact ⟨rfl, hb.trans hbn⟩
theorem compare_at (k i : Int) (t : List UInt8) (k' i' : Int) (t' : List UInt8) (w : World) :
    Calls Try.prog 49 #[.agg #[.int .i64 k, .int .i64 i, .string ⟨t.toArray⟩], .agg #[.int .i64 k', .int .i64 i', .string ⟨t'.toArray⟩]] w fun e w' => e = .returned (.int .i64 (Vals.cmp k i t k' i' t')) ∧ Below w.heap.size w w' :=
  (compare_gr k i t k' i' t' w).mono fun _ _ ⟨h, g⟩ => ⟨h, g.below⟩
theorem compare_is (k i : Int) (t : List UInt8) (k' i' : Int) (t' : List UInt8) (z : Int) (hz : Vals.cmp k i t k' i' t' = z) (w : World) :
    Calls Try.prog 49 #[.agg #[.int .i64 k, .int .i64 i, .string ⟨t.toArray⟩], .agg #[.int .i64 k', .int .i64 i', .string ⟨t'.toArray⟩]] w fun e w' => e = .returned (.int .i64 z) ∧ Below w.heap.size w w' := by
  subst hz; exact compare_at k i t k' i' t' w
end Go.Proofs.Ytcgmbgfbhdimeaa
