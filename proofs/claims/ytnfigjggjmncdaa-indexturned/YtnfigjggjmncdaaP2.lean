/- Contracts of the program and of the document (VComp, VRef, PHolds, ERow, EOne, EGet, PMeets), each used further on. -/
import Derived.BigQuiet
import Derived.Deep.Slices
import Derived.Deep.Strs
import Derived.ChangeSlices
import Derived.Lib.SmallJoins
import Derived.Laws.CopyRow
import Derived.Laws.OwnMore
import Derived.Test.YtnfigjggjmncdaaP1
namespace Go.Proofs.Ytnfigjggjmncdaa
open Go.RowKit
theorem Grown.drew {w w' : World} (h : Grown w w') : Grown w w'.drew := h.trans ⟨1, #[], by rw [Go.Sort.grow_empty]; rfl⟩
set_option maxRecDepth 100000 in
set_option maxHeartbeats 800000 in
theorem compare_gr (k i : Int) (t : List UInt8) (k' i' : Int) (t' : List UInt8) (w : World) :
    Calls Try.prog 32 #[.agg #[.int .i64 k, .int .i64 i, .string ⟨t.toArray⟩], .agg #[.int .i64 k', .int .i64 i', .string ⟨t'.toArray⟩]] w fun e w' => e = .returned (.int .i64 (Vals.cmp k i t k' i' t')) ∧ Grown w w' := by
  go_enter Try.func32, Try.ntmps32
  go_wp2_with fail
  have hB1 : Blk ((w.alloc (.cells #[.int .i64 k, .int .i64 i, .string ⟨t.toArray⟩] 45)).alloc (.cells #[.int .i64 k', .int .i64 i', .string ⟨t'.toArray⟩] 45)) w.heap.size 45 #[.int .i64 k, .int .i64 i, .string ⟨t.toArray⟩] := (Blk.new w _ _).alloc _
  have hB2 : Blk ((w.alloc (.cells #[.int .i64 k, .int .i64 i, .string ⟨t.toArray⟩] 45)).alloc (.cells #[.int .i64 k', .int .i64 i', .string ⟨t'.toArray⟩] 45)) (w.heap.size + 1) 45 #[.int .i64 k', .int .i64 i', .string ⟨t'.toArray⟩] := by
    have := Blk.new (w.alloc (.cells #[.int .i64 k, .int .i64 i, .string ⟨t.toArray⟩] 45)) 45 #[.int .i64 k', .int .i64 i', .string ⟨t'.toArray⟩]
    simpa using this
  have hb : Grown w ((w.alloc (.cells #[.int .i64 k, .int .i64 i, .string ⟨t.toArray⟩] 45)).alloc (.cells #[.int .i64 k', .int .i64 i', .string ⟨t'.toArray⟩] 45)) := ((Grown.refl _).alloc _).alloc _
  generalize ((w.alloc (.cells #[.int .i64 k, .int .i64 i, .string ⟨t.toArray⟩] 45)).alloc (.cells #[.int .i64 k', .int .i64 i', .string ⟨t'.toArray⟩] 45)) = w2 at *
  have hkeep : Hid (∀ w', Grown w2 w' → Grown w2 w' ∧ w'.cell? ⟨w.heap.size, 0, none⟩ = some (.int .i64 k) ∧ w'.cell? ⟨w.heap.size, 1, none⟩ = some (.int .i64 i) ∧ w'.cell? ⟨w.heap.size, 2, none⟩ = some (.string ⟨t.toArray⟩) ∧ w'.cell? ⟨(w.heap.size + 1), 0, none⟩ = some (.int .i64 k') ∧ w'.cell? ⟨(w.heap.size + 1), 1, none⟩ = some (.int .i64 i') ∧ w'.cell? ⟨(w.heap.size + 1), 2, none⟩ = some (.string ⟨t'.toArray⟩)) := fun w' h => ⟨h, (hB1.below h.below hB1.lt).cell 0, (hB1.below h.below hB1.lt).cell 1, (hB1.below h.below hB1.lt).cell 2, (hB2.below h.below hB2.lt).cell 0, (hB2.below h.below hB2.lt).cell 1, (hB2.below h.below hB2.lt).cell 2⟩
  have hS0 := hkeep.out w2.drew (Grown.refl _).drew
  refine wp_region_held_drew (S := fun w' => Grown w2 w' ∧ w'.cell? ⟨w.heap.size, 0, none⟩ = some (.int .i64 k) ∧ w'.cell? ⟨w.heap.size, 1, none⟩ = some (.int .i64 i) ∧ w'.cell? ⟨w.heap.size, 2, none⟩ = some (.string ⟨t.toArray⟩) ∧ w'.cell? ⟨(w.heap.size + 1), 0, none⟩ = some (.int .i64 k') ∧ w'.cell? ⟨(w.heap.size + 1), 1, none⟩ = some (.int .i64 i') ∧ w'.cell? ⟨(w.heap.size + 1), 2, none⟩ = some (.string ⟨t'.toArray⟩)) (by kernel_rfl) hS0 (fun _ => ?_)
  refine Jz 0 hS0 ?_
  refine Jz 1 hS0 ?_
  refine Jz 2 hS0 ?_
  refine Jz 3 hS0 ?_
  refine Jz 5 hS0 ?_
  refine Jz 6 hS0 ?_
  refine Jz 7 hS0 ?_
  refine Jz 8 hS0 ?_
  refine Jz 10 hS0 ?_
  refine Jz 11 hS0 ?_
  refine Jz 12 hS0 ?_
  refine Jz 13 hS0 ?_
  refine Je 4 (fun K hK1 => ?_)
  go_simp
  with_reducible refine (cmpInt_at k k' _).mono ?_
  rintro e w' ⟨rfl, rfl⟩
  go_wp2_with fail
  refine hK1.out _ _ hS0 ?_
  refine Je 9 (fun K hK2 => ?_)
  go_simp
  with_reducible refine (cmpInt_at i i' _).mono ?_
  rintro e w' ⟨rfl, rfl⟩
  go_wp2_with fail
  refine hK2.out _ _ hS0 ?_
  refine Je 14 (fun K hK3 => ?_)
  go_simp
  with_reducible refine (cmpText_at t t' _).mono ?_
  rintro e w' ⟨rfl, rfl⟩
  go_wp2_with fail
  refine hK3.out _ _ hS0 ?_
  refine Je 15 (fun K hKb => ?_)
  go_simp
  have hbn : Grown w2 (w2.alloc (.cells #[.int .i64 (Vals.cmpI k k'), .int .i64 (Vals.cmpI i i'), .int .i64 (Vals.cmpT t t')] 3)).drew := ((Grown.refl _).alloc _).drew
  have hBn : Blk (w2.alloc (.cells #[.int .i64 (Vals.cmpI k k'), .int .i64 (Vals.cmpI i i'), .int .i64 (Vals.cmpT t t')] 3)).drew w2.heap.size 3 #[.int .i64 (Vals.cmpI k k'), .int .i64 (Vals.cmpI i i'), .int .i64 (Vals.cmpT t t')] := Blk.new w2 _ _
  generalize (w2.alloc (.cells #[.int .i64 (Vals.cmpI k k'), .int .i64 (Vals.cmpI i i'), .int .i64 (Vals.cmpT t t')] 3)).drew = w3 at *
  have hS1 := hkeep.out w3 hbn
  refine hKb.out _ _ hS1 ?_
  refine Je 16 (fun K hK4 => ?_)
  go_simp
  with_reducible refine (or_at _ _ _ _ _ hBn).mono ?_
  rintro e w' ⟨rfl, rfl⟩
  go_wp2_with fail
  refine hK4.out _ _ hS1 ?_
  refine Jz 17 hS1 ?_
  refine Jd ?_
  go_wp2_with fail
  go_ret
  exact ⟨rfl, hb.trans hbn⟩
theorem compare_at (k i : Int) (t : List UInt8) (k' i' : Int) (t' : List UInt8) (w : World) :
    Calls Try.prog 32 #[.agg #[.int .i64 k, .int .i64 i, .string ⟨t.toArray⟩], .agg #[.int .i64 k', .int .i64 i', .string ⟨t'.toArray⟩]] w fun e w' => e = .returned (.int .i64 (Vals.cmp k i t k' i' t')) ∧ Below w.heap.size w w' :=
  (compare_gr k i t k' i' t' w).mono fun _ _ ⟨h, g⟩ => ⟨h, g.below⟩
theorem compare_is (k i : Int) (t : List UInt8) (k' i' : Int) (t' : List UInt8) (z : Int) (hz : Vals.cmp k i t k' i' t' = z) (w : World) :
    Calls Try.prog 32 #[.agg #[.int .i64 k, .int .i64 i, .string ⟨t.toArray⟩], .agg #[.int .i64 k', .int .i64 i', .string ⟨t'.toArray⟩]] w fun e w' => e = .returned (.int .i64 z) ∧ Below w.heap.size w w' := by
  subst hz; exact compare_at k i t k' i' t' w
end Go.Proofs.Ytnfigjggjmncdaa
namespace Go.Proofs.Ytnfigjggjmncdaa
open Go.RowKit
theorem cmp_lt1 (k i : Int) (t : List UInt8) (k' i' : Int) (t' : List UInt8) (h : k < k') : Vals.cmp k i t k' i' t' = -1 := by
  unfold Vals.cmp Vals.cmpI; simp [h]
theorem cmp_gt1 (k i : Int) (t : List UInt8) (k' i' : Int) (t' : List UInt8) (h : k' < k) : Vals.cmp k i t k' i' t' = 1 := by
  unfold Vals.cmp Vals.cmpI; simp [h, show ¬ k < k' by omega]
theorem cmp_lt2 (k i : Int) (t : List UInt8) (i' : Int) (t' : List UInt8) (h : i < i') : Vals.cmp k i t k i' t' = -1 := by
  unfold Vals.cmp Vals.cmpI; simp [h]
theorem cmp_gt2 (k i : Int) (t : List UInt8) (i' : Int) (t' : List UInt8) (h : i' < i) : Vals.cmp k i t k i' t' = 1 := by
  unfold Vals.cmp Vals.cmpI; simp [h, show ¬ i < i' by omega]
theorem cmp_eq2 (k i : Int) (t : List UInt8) (t' : List UInt8) : Vals.cmp k i t k i t' = Vals.cmpT t t' := by
  unfold Vals.cmp Vals.cmpI; simp
set_option maxRecDepth 100000 in
theorem refCompare_at (k i : Int) (t : List UInt8) (k' i' : Int) (t' : List UInt8) (hl : t.length ≤ 9223372036854775807) (hl2 : t'.length ≤ 9223372036854775807) (w : World) :
    Calls Try.prog 35 #[.agg #[.int .i64 k, .int .i64 i, .string ⟨t.toArray⟩], .agg #[.int .i64 k', .int .i64 i', .string ⟨t'.toArray⟩]] w fun e w' => e = .returned (.int .i64 (Vals.cmp k i t k' i' t')) ∧ Below w.heap.size w w' := by
  have hb2 : Below w.heap.size w ((w.alloc (.cells #[.int .i64 k, .int .i64 i, .string ⟨t.toArray⟩] 45)).alloc (.cells #[.int .i64 k', .int .i64 i', .string ⟨t'.toArray⟩] 45)) := ((Below.refl _ _).alloc (Nat.le_refl _) _).alloc (by simp) _
  rcases Int.lt_trichotomy k k' with h | rfl | h
  · have HC := Lib.hid (cmp_lt1 k i t k' i' t' h)
    go_enter Try.func35, Try.ntmps35
    go_wp2_with fail
    go_ret
    exact ⟨ret_int HC.out.symm, hb2⟩
  · rcases Int.lt_trichotomy i i' with h | rfl | h
    · have HC := Lib.hid (cmp_lt2 k i t i' t' h)
      go_enter Try.func35, Try.ntmps35
      go_wp2_with fail
      go_ret
      exact ⟨ret_int HC.out.symm, hb2⟩
    · have HC := Lib.hid (cmp_eq2 k i t t')
      go_enter Try.func35, Try.ntmps35
      go_wp2_with fail
      refine (refCmpText_at t t' hl hl2 _).mono ?_
      rintro e w1 ⟨rfl, hb1⟩
      go_wp2_with fail
      go_ret
      exact ⟨ret_int HC.out.symm, hb2.trans (hb1.mono hb2.size)⟩
    · have HC := Lib.hid (cmp_gt2 k i t i' t' h)
      have h2 : ¬ i < i' := by omega
      have h3 : decide (i < i') = false := by simpa using h2
      go_enter Try.func35, Try.ntmps35
      go_wp2_with fail
      go_ret
      exact ⟨ret_int HC.out.symm, hb2⟩
  · have HC := Lib.hid (cmp_gt1 k i t k' i' t' h)
    have h2 : ¬ k < k' := by omega
    have h3 : decide (k < k') = false := by simpa using h2
    have h4 : (k == k') = false := by simp; omega
    go_enter Try.func35, Try.ntmps35
    go_wp2_with fail
    go_ret
    exact ⟨ret_int HC.out.symm, hb2⟩
theorem refCompare_is (k i : Int) (t : List UInt8) (k' i' : Int) (t' : List UInt8) (z : Int) (hz : Vals.cmp k i t k' i' t' = z) (hl : t.length ≤ 9223372036854775807) (hl2 : t'.length ≤ 9223372036854775807) (w : World) :
    Calls Try.prog 35 #[.agg #[.int .i64 k, .int .i64 i, .string ⟨t.toArray⟩], .agg #[.int .i64 k', .int .i64 i', .string ⟨t'.toArray⟩]] w fun e w' => e = .returned (.int .i64 z) ∧ Below w.heap.size w w' := by
  subst hz; exact refCompare_at k i t k' i' t' hl hl2 w
end Go.Proofs.Ytnfigjggjmncdaa
namespace Go.Proofs.Ytnfigjggjmncdaa
open Go.RowKit
theorem box53 (w : World) (t t2 : TypeId) (a b c d e a' b' c' : Value) :
    Blk ((w.alloc (.cells #[a, b, c, d, e] t)).alloc (.cells #[a', b', c'] t2)) w.heap.size t #[a, b, c, d, e] ∧ Blk ((w.alloc (.cells #[a, b, c, d, e] t)).alloc (.cells #[a', b', c'] t2)) (w.heap.size + 1) t2 #[a', b', c'] ∧
      Below w.heap.size w ((w.alloc (.cells #[a, b, c, d, e] t)).alloc (.cells #[a', b', c'] t2)) :=
  ⟨(Blk.new w _ _).alloc _, by simpa using Blk.new (w.alloc (.cells #[a, b, c, d, e] t)) t2 #[a', b', c'], ((Below.refl _ _).alloc (Nat.le_refl _) _).alloc (by simp) _⟩
set_option maxRecDepth 100000 in
set_option maxHeartbeats 1600000 in
theorem holds_wrong (n : List UInt8) (o k i : Int) (t : List UInt8) (k' i' : Int) (t' : List UInt8) (w : World) (hn : n.length ≤ 9223372036854775807) (hl : t.length ≤ 9223372036854775807) (_hl2 : t'.length ≤ 9223372036854775807) (hr : Preds.right n o k i t = false) : Calls Try.prog 26 #[.agg #[.string ⟨n.toArray⟩, .int .i64 o, .int .i64 k, .int .i64 i, .string ⟨t.toArray⟩], .agg #[.int .i64 k', .int .i64 i', .string ⟨t'.toArray⟩]] w fun e w' => e = .returned (.bool (false)) ∧ Below w.heap.size w w' := by
  have HR := Lib.hid hr
  clear hr
  obtain ⟨hP, hV, hb0⟩ := box53 w 47 45 (.string ⟨n.toArray⟩) (.int .i64 o) (.int .i64 k) (.int .i64 i) (.string ⟨t.toArray⟩) (.int .i64 k') (.int .i64 i') (.string ⟨t'.toArray⟩)
  go_enter Try.func26, Try.ntmps26
  go_wp2_with fail
  generalize (w.alloc (.cells #[.string ⟨n.toArray⟩, .int .i64 o, .int .i64 k, .int .i64 i, .string ⟨t.toArray⟩] 47)).alloc (.cells #[.int .i64 k', .int .i64 i', .string ⟨t'.toArray⟩] 45) = w0 at *
  refine (pright_is n o k i t w0 hn hl _ HR.out).mono ?_
  rintro e w1 ⟨rfl, hb1⟩
  have hP1 := hP.below hb1 hP.lt
  have hV1 := hV.below hb1 hV.lt
  have hbw := below_next hb0 (Nat.le_refl _) hb1
  clear hP hV hb0 hb1
  obtain ⟨c0, c1, c2, c3, c4, _, _, _, _, _⟩ := blk5 hP1
  obtain ⟨v0, v1, v2, _, _, _⟩ := blk3 hV1
  go_wp2_with fail
  go_ret
  exact ⟨rfl, hbw⟩
set_option maxRecDepth 100000 in
set_option maxHeartbeats 1600000 in
theorem holds_value (n : List UInt8) (o k i : Int) (t : List UInt8) (k' i' : Int) (t' : List UInt8) (w : World) (hn : n.length ≤ 9223372036854775807) (hl : t.length ≤ 9223372036854775807) (hl2 : t'.length ≤ 9223372036854775807) (hr : Preds.right n o k i t = true) (hv : Vals.right k' i' t' = false) : Calls Try.prog 26 #[.agg #[.string ⟨n.toArray⟩, .int .i64 o, .int .i64 k, .int .i64 i, .string ⟨t.toArray⟩], .agg #[.int .i64 k', .int .i64 i', .string ⟨t'.toArray⟩]] w fun e w' => e = .returned (.bool (false)) ∧ Below w.heap.size w w' := by
  have HR := Lib.hid hr
  have HV := Lib.hid hv
  clear hr hv
  obtain ⟨hP, hV, hb0⟩ := box53 w 47 45 (.string ⟨n.toArray⟩) (.int .i64 o) (.int .i64 k) (.int .i64 i) (.string ⟨t.toArray⟩) (.int .i64 k') (.int .i64 i') (.string ⟨t'.toArray⟩)
  go_enter Try.func26, Try.ntmps26
  go_wp2_with fail
  generalize (w.alloc (.cells #[.string ⟨n.toArray⟩, .int .i64 o, .int .i64 k, .int .i64 i, .string ⟨t.toArray⟩] 47)).alloc (.cells #[.int .i64 k', .int .i64 i', .string ⟨t'.toArray⟩] 45) = w0 at *
  refine (pright_is n o k i t w0 hn hl _ HR.out).mono ?_
  rintro e w1 ⟨rfl, hb1⟩
  have hP1 := hP.below hb1 hP.lt
  have hV1 := hV.below hb1 hV.lt
  have hbw := below_next hb0 (Nat.le_refl _) hb1
  clear hP hV hb0 hb1
  obtain ⟨c0, c1, c2, c3, c4, _, _, _, _, _⟩ := blk5 hP1
  obtain ⟨v0, v1, v2, _, _, _⟩ := blk3 hV1
  go_wp2_with fail
  refine (right_is k' i' t' w1 hl2 _ HV.out).mono ?_
  rintro e w2 ⟨rfl, hb2⟩
  have hP2 := hP1.below hb2 hP1.lt
  have hV2 := hV1.below hb2 hV1.lt
  have hb2w := below_next hbw (Nat.le_refl _) hb2
  clear hP1 hV1 hbw hb2 c0 c1 c2 c3 c4 v0 v1 v2
  obtain ⟨c0, c1, c2, c3, c4, _, _, _, _, _⟩ := blk5 hP2
  obtain ⟨v0, v1, v2, _, _, _⟩ := blk3 hV2
  have lt0 : w.heap.size < w2.heap.size := hP2.lt
  have lt1 : w.heap.size + 1 < w2.heap.size := hV2.lt
  go_wp2_with fail
  go_ret
  exact ⟨rfl, hb2w⟩
set_option maxRecDepth 100000 in
set_option maxHeartbeats 1600000 in
theorem holds_exists (n : List UInt8) (k i : Int) (t : List UInt8) (k' i' : Int) (t' : List UInt8) (w : World) (hn : n.length ≤ 9223372036854775807) (hl : t.length ≤ 9223372036854775807) (hl2 : t'.length ≤ 9223372036854775807) (hr : Preds.right n 8 k i t = true) (hv : Vals.right k' i' t' = true) : Calls Try.prog 26 #[.agg #[.string ⟨n.toArray⟩, .int .i64 8, .int .i64 k, .int .i64 i, .string ⟨t.toArray⟩], .agg #[.int .i64 k', .int .i64 i', .string ⟨t'.toArray⟩]] w fun e w' => e = .returned (.bool (true)) ∧ Below w.heap.size w w' := by
  have HR := Lib.hid hr
  have HV := Lib.hid hv
  clear hr hv
  obtain ⟨hP, hV, hb0⟩ := box53 w 47 45 (.string ⟨n.toArray⟩) (.int .i64 8) (.int .i64 k) (.int .i64 i) (.string ⟨t.toArray⟩) (.int .i64 k') (.int .i64 i') (.string ⟨t'.toArray⟩)
  go_enter Try.func26, Try.ntmps26
  go_wp2_with fail
  generalize (w.alloc (.cells #[.string ⟨n.toArray⟩, .int .i64 8, .int .i64 k, .int .i64 i, .string ⟨t.toArray⟩] 47)).alloc (.cells #[.int .i64 k', .int .i64 i', .string ⟨t'.toArray⟩] 45) = w0 at *
  refine (pright_is n 8 k i t w0 hn hl _ HR.out).mono ?_
  rintro e w1 ⟨rfl, hb1⟩
  have hP1 := hP.below hb1 hP.lt
  have hV1 := hV.below hb1 hV.lt
  have hbw := below_next hb0 (Nat.le_refl _) hb1
  clear hP hV hb0 hb1
  obtain ⟨c0, c1, c2, c3, c4, _, _, _, _, _⟩ := blk5 hP1
  obtain ⟨v0, v1, v2, _, _, _⟩ := blk3 hV1
  go_wp2_with fail
  refine (right_is k' i' t' w1 hl2 _ HV.out).mono ?_
  rintro e w2 ⟨rfl, hb2⟩
  have hP2 := hP1.below hb2 hP1.lt
  have hV2 := hV1.below hb2 hV1.lt
  have hb2w := below_next hbw (Nat.le_refl _) hb2
  clear hP1 hV1 hbw hb2 c0 c1 c2 c3 c4 v0 v1 v2
  obtain ⟨c0, c1, c2, c3, c4, _, _, _, _, _⟩ := blk5 hP2
  obtain ⟨v0, v1, v2, _, _, _⟩ := blk3 hV2
  have lt0 : w.heap.size < w2.heap.size := hP2.lt
  have lt1 : w.heap.size + 1 < w2.heap.size := hV2.lt
  go_wp2_with fail
  go_ret
  exact ⟨rfl, hb2w⟩
set_option maxRecDepth 100000 in
set_option maxHeartbeats 1600000 in
theorem holds_kind (n : List UInt8) (o k i : Int) (t : List UInt8) (k' i' : Int) (t' : List UInt8) (w : World) (hn : n.length ≤ 9223372036854775807) (hl : t.length ≤ 9223372036854775807) (hl2 : t'.length ≤ 9223372036854775807) (hr : Preds.right n o k i t = true) (hv : Vals.right k' i' t' = true) (h8 : o ≠ 8) (hk : k' ≠ k) : Calls Try.prog 26 #[.agg #[.string ⟨n.toArray⟩, .int .i64 o, .int .i64 k, .int .i64 i, .string ⟨t.toArray⟩], .agg #[.int .i64 k', .int .i64 i', .string ⟨t'.toArray⟩]] w fun e w' => e = .returned (.bool (false)) ∧ Below w.heap.size w w' := by
  have HR := Lib.hid hr
  have HV := Lib.hid hv
  have e8 : (o == 8) = false := by simpa using h8
  have ek : (k' != k) = true := by simpa using hk
  clear hr hv h8 hk
  obtain ⟨hP, hV, hb0⟩ := box53 w 47 45 (.string ⟨n.toArray⟩) (.int .i64 o) (.int .i64 k) (.int .i64 i) (.string ⟨t.toArray⟩) (.int .i64 k') (.int .i64 i') (.string ⟨t'.toArray⟩)
  go_enter Try.func26, Try.ntmps26
  go_wp2_with fail
  generalize (w.alloc (.cells #[.string ⟨n.toArray⟩, .int .i64 o, .int .i64 k, .int .i64 i, .string ⟨t.toArray⟩] 47)).alloc (.cells #[.int .i64 k', .int .i64 i', .string ⟨t'.toArray⟩] 45) = w0 at *
  refine (pright_is n o k i t w0 hn hl _ HR.out).mono ?_
  rintro e w1 ⟨rfl, hb1⟩
  have hP1 := hP.below hb1 hP.lt
  have hV1 := hV.below hb1 hV.lt
  have hbw := below_next hb0 (Nat.le_refl _) hb1
  clear hP hV hb0 hb1
  obtain ⟨c0, c1, c2, c3, c4, _, _, _, _, _⟩ := blk5 hP1
  obtain ⟨v0, v1, v2, _, _, _⟩ := blk3 hV1
  go_wp2_with fail
  refine (right_is k' i' t' w1 hl2 _ HV.out).mono ?_
  rintro e w2 ⟨rfl, hb2⟩
  have hP2 := hP1.below hb2 hP1.lt
  have hV2 := hV1.below hb2 hV1.lt
  have hb2w := below_next hbw (Nat.le_refl _) hb2
  clear hP1 hV1 hbw hb2 c0 c1 c2 c3 c4 v0 v1 v2
  obtain ⟨c0, c1, c2, c3, c4, _, _, _, _, _⟩ := blk5 hP2
  obtain ⟨v0, v1, v2, _, _, _⟩ := blk3 hV2
  have lt0 : w.heap.size < w2.heap.size := hP2.lt
  have lt1 : w.heap.size + 1 < w2.heap.size := hV2.lt
  go_wp2_with fail
  go_ret
  exact ⟨rfl, hb2w⟩
set_option maxRecDepth 100000 in
set_option maxHeartbeats 1600000 in
theorem holds_pre (n : List UInt8) (k i : Int) (t : List UInt8) (i' : Int) (t' : List UInt8) (w : World) (hn : n.length ≤ 9223372036854775807) (hl : t.length ≤ 9223372036854775807) (hl2 : t'.length ≤ 9223372036854775807) (hr : Preds.right n 7 k i t = true) (hv : Vals.right k i' t' = true) : Calls Try.prog 26 #[.agg #[.string ⟨n.toArray⟩, .int .i64 7, .int .i64 k, .int .i64 i, .string ⟨t.toArray⟩], .agg #[.int .i64 k, .int .i64 i', .string ⟨t'.toArray⟩]] w fun e w' => e = .returned (.bool (Preds.begins t' t)) ∧ Below w.heap.size w w' := by
  have HR := Lib.hid hr
  have HV := Lib.hid hv
  clear hr hv
  obtain ⟨hP, hV, hb0⟩ := box53 w 47 45 (.string ⟨n.toArray⟩) (.int .i64 7) (.int .i64 k) (.int .i64 i) (.string ⟨t.toArray⟩) (.int .i64 k) (.int .i64 i') (.string ⟨t'.toArray⟩)
  go_enter Try.func26, Try.ntmps26
  go_wp2_with fail
  generalize (w.alloc (.cells #[.string ⟨n.toArray⟩, .int .i64 7, .int .i64 k, .int .i64 i, .string ⟨t.toArray⟩] 47)).alloc (.cells #[.int .i64 k, .int .i64 i', .string ⟨t'.toArray⟩] 45) = w0 at *
  refine (pright_is n 7 k i t w0 hn hl _ HR.out).mono ?_
  rintro e w1 ⟨rfl, hb1⟩
  have hP1 := hP.below hb1 hP.lt
  have hV1 := hV.below hb1 hV.lt
  have hbw := below_next hb0 (Nat.le_refl _) hb1
  clear hP hV hb0 hb1
  obtain ⟨c0, c1, c2, c3, c4, _, _, _, _, _⟩ := blk5 hP1
  obtain ⟨v0, v1, v2, _, _, _⟩ := blk3 hV1
  go_wp2_with fail
  refine (right_is k i' t' w1 hl2 _ HV.out).mono ?_
  rintro e w2 ⟨rfl, hb2⟩
  have hP2 := hP1.below hb2 hP1.lt
  have hV2 := hV1.below hb2 hV1.lt
  have hb2w := below_next hbw (Nat.le_refl _) hb2
  clear hP1 hV1 hbw hb2 c0 c1 c2 c3 c4 v0 v1 v2
  obtain ⟨c0, c1, c2, c3, c4, _, _, _, _, _⟩ := blk5 hP2
  obtain ⟨v0, v1, v2, _, _, _⟩ := blk3 hV2
  have lt0 : w.heap.size < w2.heap.size := hP2.lt
  have lt1 : w.heap.size + 1 < w2.heap.size := hV2.lt
  go_wp2_with fail
  refine (hasPrefix_at t' t w2 hl2 hl).mono ?_
  rintro e w3 ⟨rfl, rfl⟩
  go_wp2_with fail
  go_ret
  exact ⟨rfl, hb2w⟩
set_option maxRecDepth 100000 in
set_option maxHeartbeats 1600000 in
theorem holds_ord (n : List UInt8) (o k i : Int) (t : List UInt8) (i' : Int) (t' : List UInt8) (w : World) (hn : n.length ≤ 9223372036854775807) (hl : t.length ≤ 9223372036854775807) (hl2 : t'.length ≤ 9223372036854775807) (hr : Preds.right n o k i t = true) (hv : Vals.right k i' t' = true) (h8 : o ≠ 8) (h7 : o ≠ 7) (z : Int) (hz : Vals.cmp k i' t' k i t = z) : Calls Try.prog 26 #[.agg #[.string ⟨n.toArray⟩, .int .i64 o, .int .i64 k, .int .i64 i, .string ⟨t.toArray⟩], .agg #[.int .i64 k, .int .i64 i', .string ⟨t'.toArray⟩]] w fun e w' => e = .returned (.bool (Preds.allows o z)) ∧ Below w.heap.size w w' := by
  have HR := Lib.hid hr
  have HV := Lib.hid hv
  have HZ := Lib.hid hz
  have e8 : (o == 8) = false := by simpa using h8
  have e7 : (o == 7) = false := by simpa using h7
  clear hr hv h8 h7 hz
  obtain ⟨hP, hV, hb0⟩ := box53 w 47 45 (.string ⟨n.toArray⟩) (.int .i64 o) (.int .i64 k) (.int .i64 i) (.string ⟨t.toArray⟩) (.int .i64 k) (.int .i64 i') (.string ⟨t'.toArray⟩)
  go_enter Try.func26, Try.ntmps26
  go_wp2_with fail
  generalize (w.alloc (.cells #[.string ⟨n.toArray⟩, .int .i64 o, .int .i64 k, .int .i64 i, .string ⟨t.toArray⟩] 47)).alloc (.cells #[.int .i64 k, .int .i64 i', .string ⟨t'.toArray⟩] 45) = w0 at *
  refine (pright_is n o k i t w0 hn hl _ HR.out).mono ?_
  rintro e w1 ⟨rfl, hb1⟩
  have hP1 := hP.below hb1 hP.lt
  have hV1 := hV.below hb1 hV.lt
  have hbw := below_next hb0 (Nat.le_refl _) hb1
  clear hP hV hb0 hb1
  obtain ⟨c0, c1, c2, c3, c4, _, _, _, _, _⟩ := blk5 hP1
  obtain ⟨v0, v1, v2, _, _, _⟩ := blk3 hV1
  go_wp2_with fail
  refine (right_is k i' t' w1 hl2 _ HV.out).mono ?_
  rintro e w2 ⟨rfl, hb2⟩
  have hP2 := hP1.below hb2 hP1.lt
  have hV2 := hV1.below hb2 hV1.lt
  have hb2w := below_next hbw (Nat.le_refl _) hb2
  clear hP1 hV1 hbw hb2 c0 c1 c2 c3 c4 v0 v1 v2
  obtain ⟨c0, c1, c2, c3, c4, _, _, _, _, _⟩ := blk5 hP2
  obtain ⟨v0, v1, v2, _, _, _⟩ := blk3 hV2
  have lt0 : w.heap.size < w2.heap.size := hP2.lt
  have lt1 : w.heap.size + 1 < w2.heap.size := hV2.lt
  go_wp2_with fail
  clear c0 c1 c2 c3 c4 v0 v1 v2
  have hkeep : Hid (∀ w', Below w2.heap.size w2 w' → Below w2.heap.size w2 w' ∧ w'.cell? ⟨w.heap.size, 0, none⟩ = some (.string ⟨n.toArray⟩) ∧ w'.cell? ⟨w.heap.size, 1, none⟩ = some (.int .i64 o) ∧ w'.cell? ⟨w.heap.size, 2, none⟩ = some (.int .i64 k) ∧ w'.cell? ⟨w.heap.size, 3, none⟩ = some (.int .i64 i) ∧ w'.cell? ⟨w.heap.size, 4, none⟩ = some (.string ⟨t.toArray⟩) ∧ w'.cell? ⟨w.heap.size + 1, 0, none⟩ = some (.int .i64 k) ∧ w'.cell? ⟨w.heap.size + 1, 1, none⟩ = some (.int .i64 i') ∧ w'.cell? ⟨w.heap.size + 1, 2, none⟩ = some ((.string ⟨t'.toArray⟩))) := fun w' h => ⟨h, (hP2.below h hP2.lt).cell 0, (hP2.below h hP2.lt).cell 1, (hP2.below h hP2.lt).cell 2, (hP2.below h hP2.lt).cell 3, (hP2.below h hP2.lt).cell 4, (hV2.below h hV2.lt).cell 0, (hV2.below h hV2.lt).cell 1, (hV2.below h hV2.lt).cell 2⟩
  have hS0 := hkeep.out w2.drew (Below.refl _ _).drew
  refine wp_region_held_drew (S := fun w' => Below w2.heap.size w2 w' ∧ w'.cell? ⟨w.heap.size, 0, none⟩ = some (.string ⟨n.toArray⟩) ∧ w'.cell? ⟨w.heap.size, 1, none⟩ = some (.int .i64 o) ∧ w'.cell? ⟨w.heap.size, 2, none⟩ = some (.int .i64 k) ∧ w'.cell? ⟨w.heap.size, 3, none⟩ = some (.int .i64 i) ∧ w'.cell? ⟨w.heap.size, 4, none⟩ = some (.string ⟨t.toArray⟩) ∧ w'.cell? ⟨w.heap.size + 1, 0, none⟩ = some (.int .i64 k) ∧ w'.cell? ⟨w.heap.size + 1, 1, none⟩ = some (.int .i64 i') ∧ w'.cell? ⟨w.heap.size + 1, 2, none⟩ = some ((.string ⟨t'.toArray⟩))) (by kernel_rfl) hS0 (fun _ => ?_)
  refine Jz 0 hS0 ?_
  refine Jz 1 hS0 ?_
  refine Jz 2 hS0 ?_
  refine Jz 3 hS0 ?_
  refine Jz 4 hS0 ?_
  refine Je 5 (fun Kx hK1 => ?_)
  go_simp
  with_reducible refine (compare_is k i' t' k i t z HZ.out _).mono ?_
  rintro e w3 ⟨rfl, hb3⟩
  have hS1 := hkeep.out _ (below_next hS0.1 (Nat.le_refl _) hb3)
  go_wp2_with fail
  refine hK1.out _ _ hS1 ?_
  refine Je 6 (fun Kx hK2 => ?_)
  go_simp
  with_reducible refine (allows_at o z _).mono ?_
  rintro e w4 ⟨rfl, rfl⟩
  go_wp2_with fail
  refine hK2.out _ _ hS1 ?_
  refine Jz 7 hS1 ?_
  refine Jd ?_
  have hbl := below_next hb2w (Nat.le_refl _) hS1.1
  go_wp2_with fail
  go_ret
  exact ⟨rfl, hbl⟩
theorem holds_at (n : List UInt8) (o k i : Int) (t : List UInt8) (k' i' : Int) (t' : List UInt8) (w : World) (hn : n.length ≤ 9223372036854775807) (hl : t.length ≤ 9223372036854775807) (hl2 : t'.length ≤ 9223372036854775807) : Calls Try.prog 26 #[.agg #[.string ⟨n.toArray⟩, .int .i64 o, .int .i64 k, .int .i64 i, .string ⟨t.toArray⟩], .agg #[.int .i64 k', .int .i64 i', .string ⟨t'.toArray⟩]] w fun e w' => e = .returned (.bool (Preds.holds n o k i t k' i' t')) ∧ Below w.heap.size w w' := by
  cases hr : Preds.right n o k i t with
  | false =>
    have e : Preds.holds n o k i t k' i' t' = false := by unfold Preds.holds; rw [hr]; rfl
    rw [e]; exact holds_wrong n o k i t k' i' t' w hn hl hl2 hr
  | true =>
    cases hv : Vals.right k' i' t' with
    | false =>
      have e : Preds.holds n o k i t k' i' t' = false := by unfold Preds.holds; rw [hr, hv]; rfl
      rw [e]; exact holds_value n o k i t k' i' t' w hn hl hl2 hr hv
    | true =>
      have e : Preds.holds n o k i t k' i' t' = Preds.met o k i t k' i' t' := by unfold Preds.holds; rw [hr, hv]; rfl
      rw [e]
      unfold Preds.met
      by_cases h8 : o = 8
      · subst h8; rw [if_pos rfl]; exact holds_exists n k i t k' i' t' w hn hl hl2 hr hv
      · rw [if_neg h8]
        by_cases hk : k' = k
        · subst hk
          rw [decide_eq_true rfl, Bool.true_and]
          by_cases h7 : o = 7
          · subst h7; rw [if_pos rfl]; exact holds_pre n k' i t i' t' w hn hl hl2 hr hv
          · rw [if_neg h7]; exact holds_ord n o k' i t i' t' w hn hl hl2 hr hv h8 h7 _ rfl
        · rw [decide_eq_false hk, Bool.false_and]
          exact holds_kind n o k i t k' i' t' w hn hl hl2 hr hv h8 hk
theorem holds_is (n : List UInt8) (o k i : Int) (t : List UInt8) (k' i' : Int) (t' : List UInt8) (w : World) (hn : n.length ≤ 9223372036854775807) (hl : t.length ≤ 9223372036854775807) (hl2 : t'.length ≤ 9223372036854775807) (b : Bool) (hb : Preds.holds n o k i t k' i' t' = b) : Calls Try.prog 26 #[.agg #[.string ⟨n.toArray⟩, .int .i64 o, .int .i64 k, .int .i64 i, .string ⟨t.toArray⟩], .agg #[.int .i64 k', .int .i64 i', .string ⟨t'.toArray⟩]] w fun e w' => e = .returned (.bool (b)) ∧ Below w.heap.size w w' := by
  subst hb; exact holds_at n o k i t k' i' t' w hn hl hl2
set_option maxRecDepth 100000 in
set_option maxHeartbeats 1600000 in
theorem rholds_wrong (n : List UInt8) (o k i : Int) (t : List UInt8) (k' i' : Int) (t' : List UInt8) (w : World) (hn : n.length ≤ 9223372036854775807) (hl : t.length ≤ 9223372036854775807) (hl2 : t'.length ≤ 9223372036854775807) (hr : Preds.right n o k i t = false) : Calls Try.prog 28 #[.agg #[.string ⟨n.toArray⟩, .int .i64 o, .int .i64 k, .int .i64 i, .string ⟨t.toArray⟩], .agg #[.int .i64 k', .int .i64 i', .string ⟨t'.toArray⟩]] w fun e w' => e = .returned (.bool (false)) ∧ Below w.heap.size w w' := by
  have HR := Lib.hid hr
  clear hr
  obtain ⟨hP, hV, hb0⟩ := box53 w 47 45 (.string ⟨n.toArray⟩) (.int .i64 o) (.int .i64 k) (.int .i64 i) (.string ⟨t.toArray⟩) (.int .i64 k') (.int .i64 i') (.string ⟨t'.toArray⟩)
  go_enter Try.func28, Try.ntmps28
  go_wp2_with fail
  generalize (w.alloc (.cells #[.string ⟨n.toArray⟩, .int .i64 o, .int .i64 k, .int .i64 i, .string ⟨t.toArray⟩] 47)).alloc (.cells #[.int .i64 k', .int .i64 i', .string ⟨t'.toArray⟩] 45) = w0 at *
  refine (rpright_is n o k i t w0 hn hl _ HR.out).mono ?_
  rintro e w1 ⟨rfl, hb1⟩
  have hP1 := hP.below hb1 hP.lt
  have hV1 := hV.below hb1 hV.lt
  have hbw := below_next hb0 (Nat.le_refl _) hb1
  clear hP hV hb0 hb1
  obtain ⟨c0, c1, c2, c3, c4, _, _, _, _, _⟩ := blk5 hP1
  obtain ⟨v0, v1, v2, _, _, _⟩ := blk3 hV1
  go_wp2_with fail
  refine (refRight_is k' i' t' w1 hl2 _ rfl).mono ?_
  rintro e w2 ⟨rfl, hb2⟩
  have hb2w := below_next hbw (Nat.le_refl _) hb2
  clear hb2 c0 c1 c2 c3 c4 v0 v1 v2
  go_wp2_with fail
  go_ret
  exact ⟨rfl, hb2w⟩
set_option maxRecDepth 100000 in
set_option maxHeartbeats 1600000 in
theorem rholds_value (n : List UInt8) (o k i : Int) (t : List UInt8) (k' i' : Int) (t' : List UInt8) (w : World) (hn : n.length ≤ 9223372036854775807) (hl : t.length ≤ 9223372036854775807) (hl2 : t'.length ≤ 9223372036854775807) (hr : Preds.right n o k i t = true) (hv : Vals.right k' i' t' = false) : Calls Try.prog 28 #[.agg #[.string ⟨n.toArray⟩, .int .i64 o, .int .i64 k, .int .i64 i, .string ⟨t.toArray⟩], .agg #[.int .i64 k', .int .i64 i', .string ⟨t'.toArray⟩]] w fun e w' => e = .returned (.bool (false)) ∧ Below w.heap.size w w' := by
  have HR := Lib.hid hr
  have HV := Lib.hid hv
  clear hr hv
  obtain ⟨hP, hV, hb0⟩ := box53 w 47 45 (.string ⟨n.toArray⟩) (.int .i64 o) (.int .i64 k) (.int .i64 i) (.string ⟨t.toArray⟩) (.int .i64 k') (.int .i64 i') (.string ⟨t'.toArray⟩)
  go_enter Try.func28, Try.ntmps28
  go_wp2_with fail
  generalize (w.alloc (.cells #[.string ⟨n.toArray⟩, .int .i64 o, .int .i64 k, .int .i64 i, .string ⟨t.toArray⟩] 47)).alloc (.cells #[.int .i64 k', .int .i64 i', .string ⟨t'.toArray⟩] 45) = w0 at *
  refine (rpright_is n o k i t w0 hn hl _ HR.out).mono ?_
  rintro e w1 ⟨rfl, hb1⟩
  have hP1 := hP.below hb1 hP.lt
  have hV1 := hV.below hb1 hV.lt
  have hbw := below_next hb0 (Nat.le_refl _) hb1
  clear hP hV hb0 hb1
  obtain ⟨c0, c1, c2, c3, c4, _, _, _, _, _⟩ := blk5 hP1
  obtain ⟨v0, v1, v2, _, _, _⟩ := blk3 hV1
  go_wp2_with fail
  refine (refRight_is k' i' t' w1 hl2 _ HV.out).mono ?_
  rintro e w2 ⟨rfl, hb2⟩
  have hP2 := hP1.below hb2 hP1.lt
  have hV2 := hV1.below hb2 hV1.lt
  have hb2w := below_next hbw (Nat.le_refl _) hb2
  clear hP1 hV1 hbw hb2 c0 c1 c2 c3 c4 v0 v1 v2
  obtain ⟨c0, c1, c2, c3, c4, _, _, _, _, _⟩ := blk5 hP2
  obtain ⟨v0, v1, v2, _, _, _⟩ := blk3 hV2
  have lt0 : w.heap.size < w2.heap.size := hP2.lt
  have lt1 : w.heap.size + 1 < w2.heap.size := hV2.lt
  go_wp2_with fail
  go_ret
  exact ⟨rfl, hb2w⟩
set_option maxRecDepth 100000 in
set_option maxHeartbeats 1600000 in
theorem rholds_exists (n : List UInt8) (k i : Int) (t : List UInt8) (k' i' : Int) (t' : List UInt8) (w : World) (hn : n.length ≤ 9223372036854775807) (hl : t.length ≤ 9223372036854775807) (hl2 : t'.length ≤ 9223372036854775807) (hr : Preds.right n 8 k i t = true) (hv : Vals.right k' i' t' = true) : Calls Try.prog 28 #[.agg #[.string ⟨n.toArray⟩, .int .i64 8, .int .i64 k, .int .i64 i, .string ⟨t.toArray⟩], .agg #[.int .i64 k', .int .i64 i', .string ⟨t'.toArray⟩]] w fun e w' => e = .returned (.bool (true)) ∧ Below w.heap.size w w' := by
  have HR := Lib.hid hr
  have HV := Lib.hid hv
  clear hr hv
  obtain ⟨hP, hV, hb0⟩ := box53 w 47 45 (.string ⟨n.toArray⟩) (.int .i64 8) (.int .i64 k) (.int .i64 i) (.string ⟨t.toArray⟩) (.int .i64 k') (.int .i64 i') (.string ⟨t'.toArray⟩)
  go_enter Try.func28, Try.ntmps28
  go_wp2_with fail
  generalize (w.alloc (.cells #[.string ⟨n.toArray⟩, .int .i64 8, .int .i64 k, .int .i64 i, .string ⟨t.toArray⟩] 47)).alloc (.cells #[.int .i64 k', .int .i64 i', .string ⟨t'.toArray⟩] 45) = w0 at *
  refine (rpright_is n 8 k i t w0 hn hl _ HR.out).mono ?_
  rintro e w1 ⟨rfl, hb1⟩
  have hP1 := hP.below hb1 hP.lt
  have hV1 := hV.below hb1 hV.lt
  have hbw := below_next hb0 (Nat.le_refl _) hb1
  clear hP hV hb0 hb1
  obtain ⟨c0, c1, c2, c3, c4, _, _, _, _, _⟩ := blk5 hP1
  obtain ⟨v0, v1, v2, _, _, _⟩ := blk3 hV1
  go_wp2_with fail
  refine (refRight_is k' i' t' w1 hl2 _ HV.out).mono ?_
  rintro e w2 ⟨rfl, hb2⟩
  have hP2 := hP1.below hb2 hP1.lt
  have hV2 := hV1.below hb2 hV1.lt
  have hb2w := below_next hbw (Nat.le_refl _) hb2
  clear hP1 hV1 hbw hb2 c0 c1 c2 c3 c4 v0 v1 v2
  obtain ⟨c0, c1, c2, c3, c4, _, _, _, _, _⟩ := blk5 hP2
  obtain ⟨v0, v1, v2, _, _, _⟩ := blk3 hV2
  have lt0 : w.heap.size < w2.heap.size := hP2.lt
  have lt1 : w.heap.size + 1 < w2.heap.size := hV2.lt
  go_wp2_with fail
  go_ret
  exact ⟨rfl, hb2w⟩
set_option maxRecDepth 100000 in
set_option maxHeartbeats 1600000 in
theorem rholds_kind (n : List UInt8) (o k i : Int) (t : List UInt8) (k' i' : Int) (t' : List UInt8) (w : World) (hn : n.length ≤ 9223372036854775807) (hl : t.length ≤ 9223372036854775807) (hl2 : t'.length ≤ 9223372036854775807) (hr : Preds.right n o k i t = true) (hv : Vals.right k' i' t' = true) (h8 : o ≠ 8) (hk : k' ≠ k) : Calls Try.prog 28 #[.agg #[.string ⟨n.toArray⟩, .int .i64 o, .int .i64 k, .int .i64 i, .string ⟨t.toArray⟩], .agg #[.int .i64 k', .int .i64 i', .string ⟨t'.toArray⟩]] w fun e w' => e = .returned (.bool (false)) ∧ Below w.heap.size w w' := by
  have HR := Lib.hid hr
  have HV := Lib.hid hv
  have e8 : (o == 8) = false := by simpa using h8
  have ek : (k' != k) = true := by simpa using hk
  clear hr hv h8 hk
  obtain ⟨hP, hV, hb0⟩ := box53 w 47 45 (.string ⟨n.toArray⟩) (.int .i64 o) (.int .i64 k) (.int .i64 i) (.string ⟨t.toArray⟩) (.int .i64 k') (.int .i64 i') (.string ⟨t'.toArray⟩)
  go_enter Try.func28, Try.ntmps28
  go_wp2_with fail
  generalize (w.alloc (.cells #[.string ⟨n.toArray⟩, .int .i64 o, .int .i64 k, .int .i64 i, .string ⟨t.toArray⟩] 47)).alloc (.cells #[.int .i64 k', .int .i64 i', .string ⟨t'.toArray⟩] 45) = w0 at *
  refine (rpright_is n o k i t w0 hn hl _ HR.out).mono ?_
  rintro e w1 ⟨rfl, hb1⟩
  have hP1 := hP.below hb1 hP.lt
  have hV1 := hV.below hb1 hV.lt
  have hbw := below_next hb0 (Nat.le_refl _) hb1
  clear hP hV hb0 hb1
  obtain ⟨c0, c1, c2, c3, c4, _, _, _, _, _⟩ := blk5 hP1
  obtain ⟨v0, v1, v2, _, _, _⟩ := blk3 hV1
  go_wp2_with fail
  refine (refRight_is k' i' t' w1 hl2 _ HV.out).mono ?_
  rintro e w2 ⟨rfl, hb2⟩
  have hP2 := hP1.below hb2 hP1.lt
  have hV2 := hV1.below hb2 hV1.lt
  have hb2w := below_next hbw (Nat.le_refl _) hb2
  clear hP1 hV1 hbw hb2 c0 c1 c2 c3 c4 v0 v1 v2
  obtain ⟨c0, c1, c2, c3, c4, _, _, _, _, _⟩ := blk5 hP2
  obtain ⟨v0, v1, v2, _, _, _⟩ := blk3 hV2
  have lt0 : w.heap.size < w2.heap.size := hP2.lt
  have lt1 : w.heap.size + 1 < w2.heap.size := hV2.lt
  go_wp2_with fail
  go_ret
  exact ⟨rfl, hb2w.alloc hb2w.size _⟩
set_option maxRecDepth 100000 in
set_option maxHeartbeats 1600000 in
theorem rholds_ord1 (n : List UInt8) (k i : Int) (t : List UInt8) (i' : Int) (t' : List UInt8) (w : World) (hn : n.length ≤ 9223372036854775807) (hl : t.length ≤ 9223372036854775807) (hl2 : t'.length ≤ 9223372036854775807) (hr : Preds.right n 1 k i t = true) (hv : Vals.right k i' t' = true) (z : Int) (hz : Vals.cmp k i' t' k i t = z) : Calls Try.prog 28 #[.agg #[.string ⟨n.toArray⟩, .int .i64 1, .int .i64 k, .int .i64 i, .string ⟨t.toArray⟩], .agg #[.int .i64 k, .int .i64 i', .string ⟨t'.toArray⟩]] w fun e w' => e = .returned (.bool (Preds.allows 1 z)) ∧ Below w.heap.size w w' := by
  have HR := Lib.hid hr
  have HV := Lib.hid hv
  have HZ := Lib.hid hz
  clear hr hv hz
  obtain ⟨hP, hV, hb0⟩ := box53 w 47 45 (.string ⟨n.toArray⟩) (.int .i64 1) (.int .i64 k) (.int .i64 i) (.string ⟨t.toArray⟩) (.int .i64 k) (.int .i64 i') (.string ⟨t'.toArray⟩)
  go_enter Try.func28, Try.ntmps28
  go_wp2_with fail
  generalize (w.alloc (.cells #[.string ⟨n.toArray⟩, .int .i64 1, .int .i64 k, .int .i64 i, .string ⟨t.toArray⟩] 47)).alloc (.cells #[.int .i64 k, .int .i64 i', .string ⟨t'.toArray⟩] 45) = w0 at *
  refine (rpright_is n 1 k i t w0 hn hl _ HR.out).mono ?_
  rintro e w1 ⟨rfl, hb1⟩
  have hP1 := hP.below hb1 hP.lt
  have hV1 := hV.below hb1 hV.lt
  have hbw := below_next hb0 (Nat.le_refl _) hb1
  clear hP hV hb0 hb1
  obtain ⟨c0, c1, c2, c3, c4, _, _, _, _, _⟩ := blk5 hP1
  obtain ⟨v0, v1, v2, _, _, _⟩ := blk3 hV1
  go_wp2_with fail
  refine (refRight_is k i' t' w1 hl2 _ HV.out).mono ?_
  rintro e w2 ⟨rfl, hb2⟩
  have hP2 := hP1.below hb2 hP1.lt
  have hV2 := hV1.below hb2 hV1.lt
  have hb2w := below_next hbw (Nat.le_refl _) hb2
  clear hP1 hV1 hbw hb2 c0 c1 c2 c3 c4 v0 v1 v2
  obtain ⟨c0, c1, c2, c3, c4, _, _, _, _, _⟩ := blk5 hP2
  obtain ⟨v0, v1, v2, _, _, _⟩ := blk3 hV2
  have lt0 : w.heap.size < w2.heap.size := hP2.lt
  have lt1 : w.heap.size + 1 < w2.heap.size := hV2.lt
  go_wp2_with fail
  have hC := Blk.new w2 45 #[.int .i64 k, .int .i64 i, .string ⟨t.toArray⟩]
  have hb3 : Below w2.heap.size w2 (w2.alloc (.cells #[.int .i64 k, .int .i64 i, .string ⟨t.toArray⟩] 45)) := (Below.refl _ _).alloc (Nat.le_refl _) _
  have hP3 := hP2.below hb3 hP2.lt
  have hV3 := hV2.below hb3 hV2.lt
  have hb3w := below_next hb2w (Nat.le_refl _) hb3
  clear hP2 hV2 hb2w hb3 c0 c1 c2 c3 c4 v0 v1 v2 lt0 lt1
  generalize w2.heap.size = gc at *
  generalize w2.alloc (.cells #[.int .i64 k, .int .i64 i, .string ⟨t.toArray⟩] 45) = w3 at *
  refine (refCompare_is k i' t' k i t _ HZ.out hl2 hl w3).mono ?_
  rintro e w4 ⟨rfl, hb4⟩
  have hP4 := hP3.below hb4 hP3.lt
  have hV4 := hV3.below hb4 hV3.lt
  have hC4 := hC.below hb4 hC.lt
  have hb4w := below_next hb3w (Nat.le_refl _) hb4
  clear hP3 hV3 hC hb3w hb4
  obtain ⟨c0, c1, c2, c3, c4, _, _, _, _, _⟩ := blk5 hP4
  obtain ⟨v0, v1, v2, _, _, _⟩ := blk3 hV4
  obtain ⟨x0, x1, x2, _, _, _⟩ := blk3 hC4
  go_wp2_with fail
  go_ret
  exact ⟨rfl, hb4w⟩
set_option maxRecDepth 100000 in
set_option maxHeartbeats 1600000 in
theorem rholds_ord2 (n : List UInt8) (k i : Int) (t : List UInt8) (i' : Int) (t' : List UInt8) (w : World) (hn : n.length ≤ 9223372036854775807) (hl : t.length ≤ 9223372036854775807) (hl2 : t'.length ≤ 9223372036854775807) (hr : Preds.right n 2 k i t = true) (hv : Vals.right k i' t' = true) (z : Int) (hz : Vals.cmp k i' t' k i t = z) : Calls Try.prog 28 #[.agg #[.string ⟨n.toArray⟩, .int .i64 2, .int .i64 k, .int .i64 i, .string ⟨t.toArray⟩], .agg #[.int .i64 k, .int .i64 i', .string ⟨t'.toArray⟩]] w fun e w' => e = .returned (.bool (Preds.allows 2 z)) ∧ Below w.heap.size w w' := by
  have HR := Lib.hid hr
  have HV := Lib.hid hv
  have HZ := Lib.hid hz
  clear hr hv hz
  obtain ⟨hP, hV, hb0⟩ := box53 w 47 45 (.string ⟨n.toArray⟩) (.int .i64 2) (.int .i64 k) (.int .i64 i) (.string ⟨t.toArray⟩) (.int .i64 k) (.int .i64 i') (.string ⟨t'.toArray⟩)
  go_enter Try.func28, Try.ntmps28
  go_wp2_with fail
  generalize (w.alloc (.cells #[.string ⟨n.toArray⟩, .int .i64 2, .int .i64 k, .int .i64 i, .string ⟨t.toArray⟩] 47)).alloc (.cells #[.int .i64 k, .int .i64 i', .string ⟨t'.toArray⟩] 45) = w0 at *
  refine (rpright_is n 2 k i t w0 hn hl _ HR.out).mono ?_
  rintro e w1 ⟨rfl, hb1⟩
  have hP1 := hP.below hb1 hP.lt
  have hV1 := hV.below hb1 hV.lt
  have hbw := below_next hb0 (Nat.le_refl _) hb1
  clear hP hV hb0 hb1
  obtain ⟨c0, c1, c2, c3, c4, _, _, _, _, _⟩ := blk5 hP1
  obtain ⟨v0, v1, v2, _, _, _⟩ := blk3 hV1
  go_wp2_with fail
  refine (refRight_is k i' t' w1 hl2 _ HV.out).mono ?_
  rintro e w2 ⟨rfl, hb2⟩
  have hP2 := hP1.below hb2 hP1.lt
  have hV2 := hV1.below hb2 hV1.lt
  have hb2w := below_next hbw (Nat.le_refl _) hb2
  clear hP1 hV1 hbw hb2 c0 c1 c2 c3 c4 v0 v1 v2
  obtain ⟨c0, c1, c2, c3, c4, _, _, _, _, _⟩ := blk5 hP2
  obtain ⟨v0, v1, v2, _, _, _⟩ := blk3 hV2
  have lt0 : w.heap.size < w2.heap.size := hP2.lt
  have lt1 : w.heap.size + 1 < w2.heap.size := hV2.lt
  go_wp2_with fail
  have hC := Blk.new w2 45 #[.int .i64 k, .int .i64 i, .string ⟨t.toArray⟩]
  have hb3 : Below w2.heap.size w2 (w2.alloc (.cells #[.int .i64 k, .int .i64 i, .string ⟨t.toArray⟩] 45)) := (Below.refl _ _).alloc (Nat.le_refl _) _
  have hP3 := hP2.below hb3 hP2.lt
  have hV3 := hV2.below hb3 hV2.lt
  have hb3w := below_next hb2w (Nat.le_refl _) hb3
  clear hP2 hV2 hb2w hb3 c0 c1 c2 c3 c4 v0 v1 v2 lt0 lt1
  generalize w2.heap.size = gc at *
  generalize w2.alloc (.cells #[.int .i64 k, .int .i64 i, .string ⟨t.toArray⟩] 45) = w3 at *
  refine (refCompare_is k i' t' k i t _ HZ.out hl2 hl w3).mono ?_
  rintro e w4 ⟨rfl, hb4⟩
  have hP4 := hP3.below hb4 hP3.lt
  have hV4 := hV3.below hb4 hV3.lt
  have hC4 := hC.below hb4 hC.lt
  have hb4w := below_next hb3w (Nat.le_refl _) hb4
  clear hP3 hV3 hC hb3w hb4
  obtain ⟨c0, c1, c2, c3, c4, _, _, _, _, _⟩ := blk5 hP4
  obtain ⟨v0, v1, v2, _, _, _⟩ := blk3 hV4
  obtain ⟨x0, x1, x2, _, _, _⟩ := blk3 hC4
  go_wp2_with fail
  go_ret
  exact ⟨rfl, hb4w⟩
set_option maxRecDepth 100000 in
set_option maxHeartbeats 1600000 in
theorem rholds_ord3 (n : List UInt8) (k i : Int) (t : List UInt8) (i' : Int) (t' : List UInt8) (w : World) (hn : n.length ≤ 9223372036854775807) (hl : t.length ≤ 9223372036854775807) (hl2 : t'.length ≤ 9223372036854775807) (hr : Preds.right n 3 k i t = true) (hv : Vals.right k i' t' = true) (z : Int) (hz : Vals.cmp k i' t' k i t = z) : Calls Try.prog 28 #[.agg #[.string ⟨n.toArray⟩, .int .i64 3, .int .i64 k, .int .i64 i, .string ⟨t.toArray⟩], .agg #[.int .i64 k, .int .i64 i', .string ⟨t'.toArray⟩]] w fun e w' => e = .returned (.bool (Preds.allows 3 z)) ∧ Below w.heap.size w w' := by
  have HR := Lib.hid hr
  have HV := Lib.hid hv
  have HZ := Lib.hid hz
  clear hr hv hz
  obtain ⟨hP, hV, hb0⟩ := box53 w 47 45 (.string ⟨n.toArray⟩) (.int .i64 3) (.int .i64 k) (.int .i64 i) (.string ⟨t.toArray⟩) (.int .i64 k) (.int .i64 i') (.string ⟨t'.toArray⟩)
  go_enter Try.func28, Try.ntmps28
  go_wp2_with fail
  generalize (w.alloc (.cells #[.string ⟨n.toArray⟩, .int .i64 3, .int .i64 k, .int .i64 i, .string ⟨t.toArray⟩] 47)).alloc (.cells #[.int .i64 k, .int .i64 i', .string ⟨t'.toArray⟩] 45) = w0 at *
  refine (rpright_is n 3 k i t w0 hn hl _ HR.out).mono ?_
  rintro e w1 ⟨rfl, hb1⟩
  have hP1 := hP.below hb1 hP.lt
  have hV1 := hV.below hb1 hV.lt
  have hbw := below_next hb0 (Nat.le_refl _) hb1
  clear hP hV hb0 hb1
  obtain ⟨c0, c1, c2, c3, c4, _, _, _, _, _⟩ := blk5 hP1
  obtain ⟨v0, v1, v2, _, _, _⟩ := blk3 hV1
  go_wp2_with fail
  refine (refRight_is k i' t' w1 hl2 _ HV.out).mono ?_
  rintro e w2 ⟨rfl, hb2⟩
  have hP2 := hP1.below hb2 hP1.lt
  have hV2 := hV1.below hb2 hV1.lt
  have hb2w := below_next hbw (Nat.le_refl _) hb2
  clear hP1 hV1 hbw hb2 c0 c1 c2 c3 c4 v0 v1 v2
  obtain ⟨c0, c1, c2, c3, c4, _, _, _, _, _⟩ := blk5 hP2
  obtain ⟨v0, v1, v2, _, _, _⟩ := blk3 hV2
  have lt0 : w.heap.size < w2.heap.size := hP2.lt
  have lt1 : w.heap.size + 1 < w2.heap.size := hV2.lt
  go_wp2_with fail
  have hC := Blk.new w2 45 #[.int .i64 k, .int .i64 i, .string ⟨t.toArray⟩]
  have hb3 : Below w2.heap.size w2 (w2.alloc (.cells #[.int .i64 k, .int .i64 i, .string ⟨t.toArray⟩] 45)) := (Below.refl _ _).alloc (Nat.le_refl _) _
  have hP3 := hP2.below hb3 hP2.lt
  have hV3 := hV2.below hb3 hV2.lt
  have hb3w := below_next hb2w (Nat.le_refl _) hb3
  clear hP2 hV2 hb2w hb3 c0 c1 c2 c3 c4 v0 v1 v2 lt0 lt1
  generalize w2.heap.size = gc at *
  generalize w2.alloc (.cells #[.int .i64 k, .int .i64 i, .string ⟨t.toArray⟩] 45) = w3 at *
  refine (refCompare_is k i' t' k i t _ HZ.out hl2 hl w3).mono ?_
  rintro e w4 ⟨rfl, hb4⟩
  have hP4 := hP3.below hb4 hP3.lt
  have hV4 := hV3.below hb4 hV3.lt
  have hC4 := hC.below hb4 hC.lt
  have hb4w := below_next hb3w (Nat.le_refl _) hb4
  clear hP3 hV3 hC hb3w hb4
  obtain ⟨c0, c1, c2, c3, c4, _, _, _, _, _⟩ := blk5 hP4
  obtain ⟨v0, v1, v2, _, _, _⟩ := blk3 hV4
  obtain ⟨x0, x1, x2, _, _, _⟩ := blk3 hC4
  go_wp2_with fail
  go_ret
  exact ⟨rfl, hb4w⟩
set_option maxRecDepth 100000 in
set_option maxHeartbeats 1600000 in
theorem rholds_ord4 (n : List UInt8) (k i : Int) (t : List UInt8) (i' : Int) (t' : List UInt8) (w : World) (hn : n.length ≤ 9223372036854775807) (hl : t.length ≤ 9223372036854775807) (hl2 : t'.length ≤ 9223372036854775807) (hr : Preds.right n 4 k i t = true) (hv : Vals.right k i' t' = true) (z : Int) (hz : Vals.cmp k i' t' k i t = z) : Calls Try.prog 28 #[.agg #[.string ⟨n.toArray⟩, .int .i64 4, .int .i64 k, .int .i64 i, .string ⟨t.toArray⟩], .agg #[.int .i64 k, .int .i64 i', .string ⟨t'.toArray⟩]] w fun e w' => e = .returned (.bool (Preds.allows 4 z)) ∧ Below w.heap.size w w' := by
  have HR := Lib.hid hr
  have HV := Lib.hid hv
  have HZ := Lib.hid hz
  clear hr hv hz
  obtain ⟨hP, hV, hb0⟩ := box53 w 47 45 (.string ⟨n.toArray⟩) (.int .i64 4) (.int .i64 k) (.int .i64 i) (.string ⟨t.toArray⟩) (.int .i64 k) (.int .i64 i') (.string ⟨t'.toArray⟩)
  go_enter Try.func28, Try.ntmps28
  go_wp2_with fail
  generalize (w.alloc (.cells #[.string ⟨n.toArray⟩, .int .i64 4, .int .i64 k, .int .i64 i, .string ⟨t.toArray⟩] 47)).alloc (.cells #[.int .i64 k, .int .i64 i', .string ⟨t'.toArray⟩] 45) = w0 at *
  refine (rpright_is n 4 k i t w0 hn hl _ HR.out).mono ?_
  rintro e w1 ⟨rfl, hb1⟩
  have hP1 := hP.below hb1 hP.lt
  have hV1 := hV.below hb1 hV.lt
  have hbw := below_next hb0 (Nat.le_refl _) hb1
  clear hP hV hb0 hb1
  obtain ⟨c0, c1, c2, c3, c4, _, _, _, _, _⟩ := blk5 hP1
  obtain ⟨v0, v1, v2, _, _, _⟩ := blk3 hV1
  go_wp2_with fail
  refine (refRight_is k i' t' w1 hl2 _ HV.out).mono ?_
  rintro e w2 ⟨rfl, hb2⟩
  have hP2 := hP1.below hb2 hP1.lt
  have hV2 := hV1.below hb2 hV1.lt
  have hb2w := below_next hbw (Nat.le_refl _) hb2
  clear hP1 hV1 hbw hb2 c0 c1 c2 c3 c4 v0 v1 v2
  obtain ⟨c0, c1, c2, c3, c4, _, _, _, _, _⟩ := blk5 hP2
  obtain ⟨v0, v1, v2, _, _, _⟩ := blk3 hV2
  have lt0 : w.heap.size < w2.heap.size := hP2.lt
  have lt1 : w.heap.size + 1 < w2.heap.size := hV2.lt
  go_wp2_with fail
  have hC := Blk.new w2 45 #[.int .i64 k, .int .i64 i, .string ⟨t.toArray⟩]
  have hb3 : Below w2.heap.size w2 (w2.alloc (.cells #[.int .i64 k, .int .i64 i, .string ⟨t.toArray⟩] 45)) := (Below.refl _ _).alloc (Nat.le_refl _) _
  have hP3 := hP2.below hb3 hP2.lt
  have hV3 := hV2.below hb3 hV2.lt
  have hb3w := below_next hb2w (Nat.le_refl _) hb3
  clear hP2 hV2 hb2w hb3 c0 c1 c2 c3 c4 v0 v1 v2 lt0 lt1
  generalize w2.heap.size = gc at *
  generalize w2.alloc (.cells #[.int .i64 k, .int .i64 i, .string ⟨t.toArray⟩] 45) = w3 at *
  refine (refCompare_is k i' t' k i t _ HZ.out hl2 hl w3).mono ?_
  rintro e w4 ⟨rfl, hb4⟩
  have hP4 := hP3.below hb4 hP3.lt
  have hV4 := hV3.below hb4 hV3.lt
  have hC4 := hC.below hb4 hC.lt
  have hb4w := below_next hb3w (Nat.le_refl _) hb4
  clear hP3 hV3 hC hb3w hb4
  obtain ⟨c0, c1, c2, c3, c4, _, _, _, _, _⟩ := blk5 hP4
  obtain ⟨v0, v1, v2, _, _, _⟩ := blk3 hV4
  obtain ⟨x0, x1, x2, _, _, _⟩ := blk3 hC4
  go_wp2_with fail
  go_ret
  exact ⟨rfl, hb4w⟩
set_option maxRecDepth 100000 in
set_option maxHeartbeats 1600000 in
theorem rholds_ord5 (n : List UInt8) (k i : Int) (t : List UInt8) (i' : Int) (t' : List UInt8) (w : World) (hn : n.length ≤ 9223372036854775807) (hl : t.length ≤ 9223372036854775807) (hl2 : t'.length ≤ 9223372036854775807) (hr : Preds.right n 5 k i t = true) (hv : Vals.right k i' t' = true) (z : Int) (hz : Vals.cmp k i' t' k i t = z) : Calls Try.prog 28 #[.agg #[.string ⟨n.toArray⟩, .int .i64 5, .int .i64 k, .int .i64 i, .string ⟨t.toArray⟩], .agg #[.int .i64 k, .int .i64 i', .string ⟨t'.toArray⟩]] w fun e w' => e = .returned (.bool (Preds.allows 5 z)) ∧ Below w.heap.size w w' := by
  have HR := Lib.hid hr
  have HV := Lib.hid hv
  have HZ := Lib.hid hz
  clear hr hv hz
  obtain ⟨hP, hV, hb0⟩ := box53 w 47 45 (.string ⟨n.toArray⟩) (.int .i64 5) (.int .i64 k) (.int .i64 i) (.string ⟨t.toArray⟩) (.int .i64 k) (.int .i64 i') (.string ⟨t'.toArray⟩)
  go_enter Try.func28, Try.ntmps28
  go_wp2_with fail
  generalize (w.alloc (.cells #[.string ⟨n.toArray⟩, .int .i64 5, .int .i64 k, .int .i64 i, .string ⟨t.toArray⟩] 47)).alloc (.cells #[.int .i64 k, .int .i64 i', .string ⟨t'.toArray⟩] 45) = w0 at *
  refine (rpright_is n 5 k i t w0 hn hl _ HR.out).mono ?_
  rintro e w1 ⟨rfl, hb1⟩
  have hP1 := hP.below hb1 hP.lt
  have hV1 := hV.below hb1 hV.lt
  have hbw := below_next hb0 (Nat.le_refl _) hb1
  clear hP hV hb0 hb1
  obtain ⟨c0, c1, c2, c3, c4, _, _, _, _, _⟩ := blk5 hP1
  obtain ⟨v0, v1, v2, _, _, _⟩ := blk3 hV1
  go_wp2_with fail
  refine (refRight_is k i' t' w1 hl2 _ HV.out).mono ?_
  rintro e w2 ⟨rfl, hb2⟩
  have hP2 := hP1.below hb2 hP1.lt
  have hV2 := hV1.below hb2 hV1.lt
  have hb2w := below_next hbw (Nat.le_refl _) hb2
  clear hP1 hV1 hbw hb2 c0 c1 c2 c3 c4 v0 v1 v2
  obtain ⟨c0, c1, c2, c3, c4, _, _, _, _, _⟩ := blk5 hP2
  obtain ⟨v0, v1, v2, _, _, _⟩ := blk3 hV2
  have lt0 : w.heap.size < w2.heap.size := hP2.lt
  have lt1 : w.heap.size + 1 < w2.heap.size := hV2.lt
  go_wp2_with fail
  have hC := Blk.new w2 45 #[.int .i64 k, .int .i64 i, .string ⟨t.toArray⟩]
  have hb3 : Below w2.heap.size w2 (w2.alloc (.cells #[.int .i64 k, .int .i64 i, .string ⟨t.toArray⟩] 45)) := (Below.refl _ _).alloc (Nat.le_refl _) _
  have hP3 := hP2.below hb3 hP2.lt
  have hV3 := hV2.below hb3 hV2.lt
  have hb3w := below_next hb2w (Nat.le_refl _) hb3
  clear hP2 hV2 hb2w hb3 c0 c1 c2 c3 c4 v0 v1 v2 lt0 lt1
  generalize w2.heap.size = gc at *
  generalize w2.alloc (.cells #[.int .i64 k, .int .i64 i, .string ⟨t.toArray⟩] 45) = w3 at *
  refine (refCompare_is k i' t' k i t _ HZ.out hl2 hl w3).mono ?_
  rintro e w4 ⟨rfl, hb4⟩
  have hP4 := hP3.below hb4 hP3.lt
  have hV4 := hV3.below hb4 hV3.lt
  have hC4 := hC.below hb4 hC.lt
  have hb4w := below_next hb3w (Nat.le_refl _) hb4
  clear hP3 hV3 hC hb3w hb4
  obtain ⟨c0, c1, c2, c3, c4, _, _, _, _, _⟩ := blk5 hP4
  obtain ⟨v0, v1, v2, _, _, _⟩ := blk3 hV4
  obtain ⟨x0, x1, x2, _, _, _⟩ := blk3 hC4
  go_wp2_with fail
  go_ret
  exact ⟨rfl, hb4w⟩
set_option maxRecDepth 100000 in
set_option maxHeartbeats 1600000 in
theorem rholds_ord6 (n : List UInt8) (k i : Int) (t : List UInt8) (i' : Int) (t' : List UInt8) (w : World) (hn : n.length ≤ 9223372036854775807) (hl : t.length ≤ 9223372036854775807) (hl2 : t'.length ≤ 9223372036854775807) (hr : Preds.right n 6 k i t = true) (hv : Vals.right k i' t' = true) (z : Int) (hz : Vals.cmp k i' t' k i t = z) : Calls Try.prog 28 #[.agg #[.string ⟨n.toArray⟩, .int .i64 6, .int .i64 k, .int .i64 i, .string ⟨t.toArray⟩], .agg #[.int .i64 k, .int .i64 i', .string ⟨t'.toArray⟩]] w fun e w' => e = .returned (.bool (Preds.allows 6 z)) ∧ Below w.heap.size w w' := by
  have HR := Lib.hid hr
  have HV := Lib.hid hv
  have HZ := Lib.hid hz
  clear hr hv hz
  obtain ⟨hP, hV, hb0⟩ := box53 w 47 45 (.string ⟨n.toArray⟩) (.int .i64 6) (.int .i64 k) (.int .i64 i) (.string ⟨t.toArray⟩) (.int .i64 k) (.int .i64 i') (.string ⟨t'.toArray⟩)
  go_enter Try.func28, Try.ntmps28
  go_wp2_with fail
  generalize (w.alloc (.cells #[.string ⟨n.toArray⟩, .int .i64 6, .int .i64 k, .int .i64 i, .string ⟨t.toArray⟩] 47)).alloc (.cells #[.int .i64 k, .int .i64 i', .string ⟨t'.toArray⟩] 45) = w0 at *
  refine (rpright_is n 6 k i t w0 hn hl _ HR.out).mono ?_
  rintro e w1 ⟨rfl, hb1⟩
  have hP1 := hP.below hb1 hP.lt
  have hV1 := hV.below hb1 hV.lt
  have hbw := below_next hb0 (Nat.le_refl _) hb1
  clear hP hV hb0 hb1
  obtain ⟨c0, c1, c2, c3, c4, _, _, _, _, _⟩ := blk5 hP1
  obtain ⟨v0, v1, v2, _, _, _⟩ := blk3 hV1
  go_wp2_with fail
  refine (refRight_is k i' t' w1 hl2 _ HV.out).mono ?_
  rintro e w2 ⟨rfl, hb2⟩
  have hP2 := hP1.below hb2 hP1.lt
  have hV2 := hV1.below hb2 hV1.lt
  have hb2w := below_next hbw (Nat.le_refl _) hb2
  clear hP1 hV1 hbw hb2 c0 c1 c2 c3 c4 v0 v1 v2
  obtain ⟨c0, c1, c2, c3, c4, _, _, _, _, _⟩ := blk5 hP2
  obtain ⟨v0, v1, v2, _, _, _⟩ := blk3 hV2
  have lt0 : w.heap.size < w2.heap.size := hP2.lt
  have lt1 : w.heap.size + 1 < w2.heap.size := hV2.lt
  go_wp2_with fail
  have hC := Blk.new w2 45 #[.int .i64 k, .int .i64 i, .string ⟨t.toArray⟩]
  have hb3 : Below w2.heap.size w2 (w2.alloc (.cells #[.int .i64 k, .int .i64 i, .string ⟨t.toArray⟩] 45)) := (Below.refl _ _).alloc (Nat.le_refl _) _
  have hP3 := hP2.below hb3 hP2.lt
  have hV3 := hV2.below hb3 hV2.lt
  have hb3w := below_next hb2w (Nat.le_refl _) hb3
  clear hP2 hV2 hb2w hb3 c0 c1 c2 c3 c4 v0 v1 v2 lt0 lt1
  generalize w2.heap.size = gc at *
  generalize w2.alloc (.cells #[.int .i64 k, .int .i64 i, .string ⟨t.toArray⟩] 45) = w3 at *
  refine (refCompare_is k i' t' k i t _ HZ.out hl2 hl w3).mono ?_
  rintro e w4 ⟨rfl, hb4⟩
  have hP4 := hP3.below hb4 hP3.lt
  have hV4 := hV3.below hb4 hV3.lt
  have hC4 := hC.below hb4 hC.lt
  have hb4w := below_next hb3w (Nat.le_refl _) hb4
  clear hP3 hV3 hC hb3w hb4
  obtain ⟨c0, c1, c2, c3, c4, _, _, _, _, _⟩ := blk5 hP4
  obtain ⟨v0, v1, v2, _, _, _⟩ := blk3 hV4
  obtain ⟨x0, x1, x2, _, _, _⟩ := blk3 hC4
  go_wp2_with fail
  go_ret
  exact ⟨rfl, hb4w⟩
set_option maxRecDepth 100000 in
set_option maxHeartbeats 1600000 in
theorem rholds_pre (n : List UInt8) (k i : Int) (t : List UInt8) (i' : Int) (t' : List UInt8) (w : World) (hn : n.length ≤ 9223372036854775807) (hl : t.length ≤ 9223372036854775807) (hl2 : t'.length ≤ 9223372036854775807) (hr : Preds.right n 7 k i t = true) (hv : Vals.right k i' t' = true) (z : Int) (hz : Vals.cmp k i' t' k i t = z) : Calls Try.prog 28 #[.agg #[.string ⟨n.toArray⟩, .int .i64 7, .int .i64 k, .int .i64 i, .string ⟨t.toArray⟩], .agg #[.int .i64 k, .int .i64 i', .string ⟨t'.toArray⟩]] w fun e w' => e = .returned (.bool (Preds.begins t' t)) ∧ Below w.heap.size w w' := by
  have HR := Lib.hid hr
  have HV := Lib.hid hv
  have HZ := Lib.hid hz
  clear hr hv hz
  obtain ⟨hP, hV, hb0⟩ := box53 w 47 45 (.string ⟨n.toArray⟩) (.int .i64 7) (.int .i64 k) (.int .i64 i) (.string ⟨t.toArray⟩) (.int .i64 k) (.int .i64 i') (.string ⟨t'.toArray⟩)
  go_enter Try.func28, Try.ntmps28
  go_wp2_with fail
  generalize (w.alloc (.cells #[.string ⟨n.toArray⟩, .int .i64 7, .int .i64 k, .int .i64 i, .string ⟨t.toArray⟩] 47)).alloc (.cells #[.int .i64 k, .int .i64 i', .string ⟨t'.toArray⟩] 45) = w0 at *
  refine (rpright_is n 7 k i t w0 hn hl _ HR.out).mono ?_
  rintro e w1 ⟨rfl, hb1⟩
  have hP1 := hP.below hb1 hP.lt
  have hV1 := hV.below hb1 hV.lt
  have hbw := below_next hb0 (Nat.le_refl _) hb1
  clear hP hV hb0 hb1
  obtain ⟨c0, c1, c2, c3, c4, _, _, _, _, _⟩ := blk5 hP1
  obtain ⟨v0, v1, v2, _, _, _⟩ := blk3 hV1
  go_wp2_with fail
  refine (refRight_is k i' t' w1 hl2 _ HV.out).mono ?_
  rintro e w2 ⟨rfl, hb2⟩
  have hP2 := hP1.below hb2 hP1.lt
  have hV2 := hV1.below hb2 hV1.lt
  have hb2w := below_next hbw (Nat.le_refl _) hb2
  clear hP1 hV1 hbw hb2 c0 c1 c2 c3 c4 v0 v1 v2
  obtain ⟨c0, c1, c2, c3, c4, _, _, _, _, _⟩ := blk5 hP2
  obtain ⟨v0, v1, v2, _, _, _⟩ := blk3 hV2
  have lt0 : w.heap.size < w2.heap.size := hP2.lt
  have lt1 : w.heap.size + 1 < w2.heap.size := hV2.lt
  go_wp2_with fail
  have hC := Blk.new w2 45 #[.int .i64 k, .int .i64 i, .string ⟨t.toArray⟩]
  have hb3 : Below w2.heap.size w2 (w2.alloc (.cells #[.int .i64 k, .int .i64 i, .string ⟨t.toArray⟩] 45)) := (Below.refl _ _).alloc (Nat.le_refl _) _
  have hP3 := hP2.below hb3 hP2.lt
  have hV3 := hV2.below hb3 hV2.lt
  have hb3w := below_next hb2w (Nat.le_refl _) hb3
  clear hP2 hV2 hb2w hb3 c0 c1 c2 c3 c4 v0 v1 v2 lt0 lt1
  generalize w2.heap.size = gc at *
  generalize w2.alloc (.cells #[.int .i64 k, .int .i64 i, .string ⟨t.toArray⟩] 45) = w3 at *
  refine (refCompare_is k i' t' k i t _ HZ.out hl2 hl w3).mono ?_
  rintro e w4 ⟨rfl, hb4⟩
  have hP4 := hP3.below hb4 hP3.lt
  have hV4 := hV3.below hb4 hV3.lt
  have hC4 := hC.below hb4 hC.lt
  have hb4w := below_next hb3w (Nat.le_refl _) hb4
  clear hP3 hV3 hC hb3w hb4
  obtain ⟨c0, c1, c2, c3, c4, _, _, _, _, _⟩ := blk5 hP4
  obtain ⟨v0, v1, v2, _, _, _⟩ := blk3 hV4
  obtain ⟨x0, x1, x2, _, _, _⟩ := blk3 hC4
  by_cases h : t.length ≤ t'.length
  · have d1 : decide (t.length ≤ t'.length) = true := by simpa using h
    have HF := Lib.hid (begins_yes t' t h)
    go_wp2_with fail
    go_quiet (fail)
    have hbn := hb4w.trans (below_drewN (Below.refl _ _) nq)
    generalize w4.drewN nq = w5 at *
    go_wp2_with fail
    go_ret
    exact ⟨ret_b HF.out.symm, hbn⟩
  · have d1 : decide (t.length ≤ t'.length) = false := by simpa using h
    have HF := Lib.hid (begins_no t' t (by omega))
    clear h
    go_wp2_with fail
    go_quiet (fail)
    have hbn := hb4w.trans (below_drewN (Below.refl _ _) nq)
    generalize w4.drewN nq = w5 at *
    go_wp2_with fail
    go_ret
    exact ⟨ret_b HF.out.symm, hbn⟩
theorem rholds_at (n : List UInt8) (o k i : Int) (t : List UInt8) (k' i' : Int) (t' : List UInt8) (w : World) (hn : n.length ≤ 9223372036854775807) (hl : t.length ≤ 9223372036854775807) (hl2 : t'.length ≤ 9223372036854775807) : Calls Try.prog 28 #[.agg #[.string ⟨n.toArray⟩, .int .i64 o, .int .i64 k, .int .i64 i, .string ⟨t.toArray⟩], .agg #[.int .i64 k', .int .i64 i', .string ⟨t'.toArray⟩]] w fun e w' => e = .returned (.bool (Preds.holds n o k i t k' i' t')) ∧ Below w.heap.size w w' := by
  cases hr : Preds.right n o k i t with
  | false =>
    have e : Preds.holds n o k i t k' i' t' = false := by unfold Preds.holds; rw [hr]; rfl
    rw [e]; exact rholds_wrong n o k i t k' i' t' w hn hl hl2 hr
  | true =>
    cases hv : Vals.right k' i' t' with
    | false =>
      have e : Preds.holds n o k i t k' i' t' = false := by unfold Preds.holds; rw [hr, hv]; rfl
      rw [e]; exact rholds_value n o k i t k' i' t' w hn hl hl2 hr hv
    | true =>
      have e : Preds.holds n o k i t k' i' t' = Preds.met o k i t k' i' t' := by unfold Preds.holds; rw [hr, hv]; rfl
      rw [e]
      unfold Preds.met
      by_cases h8 : o = 8
      · subst h8; rw [if_pos rfl]; exact rholds_exists n k i t k' i' t' w hn hl hl2 hr hv
      · rw [if_neg h8]
        by_cases hk : k' = k
        · subst hk
          rw [decide_eq_true rfl, Bool.true_and]
          by_cases h7 : o = 7
          · subst h7; rw [if_pos rfl]; exact rholds_pre n k' i t i' t' w hn hl hl2 hr hv _ rfl
          · have ho : o = 1 ∨ o = 2 ∨ o = 3 ∨ o = 4 ∨ o = 5 ∨ o = 6 := by
              rcases Preds.asks_cases (Preds.right_parts hr).2.2 with ⟨h, _⟩ | ⟨_, b1, b2, _⟩ <;> omega
            clear h7 h8 e
            rcases ho with rfl | rfl | rfl | rfl | rfl | rfl
            · rw [if_neg (by decide)]; exact rholds_ord1 n k' i t i' t' w hn hl hl2 hr hv _ rfl
            · rw [if_neg (by decide)]; exact rholds_ord2 n k' i t i' t' w hn hl hl2 hr hv _ rfl
            · rw [if_neg (by decide)]; exact rholds_ord3 n k' i t i' t' w hn hl hl2 hr hv _ rfl
            · rw [if_neg (by decide)]; exact rholds_ord4 n k' i t i' t' w hn hl hl2 hr hv _ rfl
            · rw [if_neg (by decide)]; exact rholds_ord5 n k' i t i' t' w hn hl hl2 hr hv _ rfl
            · rw [if_neg (by decide)]; exact rholds_ord6 n k' i t i' t' w hn hl hl2 hr hv _ rfl
        · rw [decide_eq_false hk, Bool.false_and]
          exact rholds_kind n o k i t k' i' t' w hn hl hl2 hr hv h8 hk
theorem rholds_is (n : List UInt8) (o k i : Int) (t : List UInt8) (k' i' : Int) (t' : List UInt8) (w : World) (hn : n.length ≤ 9223372036854775807) (hl : t.length ≤ 9223372036854775807) (hl2 : t'.length ≤ 9223372036854775807) (b : Bool) (hb : Preds.holds n o k i t k' i' t' = b) : Calls Try.prog 28 #[.agg #[.string ⟨n.toArray⟩, .int .i64 o, .int .i64 k, .int .i64 i, .string ⟨t.toArray⟩], .agg #[.int .i64 k', .int .i64 i', .string ⟨t'.toArray⟩]] w fun e w' => e = .returned (.bool (b)) ∧ Below w.heap.size w w' := by
  subst hb; exact rholds_at n o k i t k' i' t' w hn hl hl2
end Go.Proofs.Ytnfigjggjmncdaa
namespace Go.Proofs.Ytnfigjggjmncdaa
open Go.RowKit Go.ChangeShapes Go.WideShapes Go.Deep Ev
/-- An attribute's four cells. -/
def cellsA (a : At) : List Value := [.string ⟨a.n.toArray⟩, .int .i64 a.k, .int .i64 a.i, .string ⟨a.t.toArray⟩]
def Cells (w : World) (g o : Nat) (a : At) : Prop :=
  w.cell? ⟨g, o, none⟩ = some (.string ⟨a.n.toArray⟩) ∧ w.cell? ⟨g, o + 1, none⟩ = some (.int .i64 a.k) ∧ w.cell? ⟨g, o + 2, none⟩ = some (.int .i64 a.i) ∧ w.cell? ⟨g, o + 3, none⟩ = some (.string ⟨a.t.toArray⟩)
/-- Attributes that a slice's address leads to. -/
def RdA (w : World) (A : Option Addr) (es : List At) : Prop :=
  es = [] ∨ ∃ g off, A = some ⟨g, off, none⟩ ∧ g < w.heap.size ∧ ∀ i (h : i < es.length), Cells w g (off + i * 4) es[i]
theorem Cells.below {w w' : World} {g o : Nat} {a : At} (h : Cells w g o a) {B : Nat} (hb : Below B w w') (hg : g < B) : Cells w' g o a :=
  ⟨(hb.cell (p := ⟨g, o, none⟩) hg).trans h.1, (hb.cell (p := ⟨g, o + 1, none⟩) hg).trans h.2.1, (hb.cell (p := ⟨g, o + 2, none⟩) hg).trans h.2.2.1, (hb.cell (p := ⟨g, o + 3, none⟩) hg).trans h.2.2.2⟩
theorem RdA.at_ {w : World} {A : Option Addr} {es : List At} (h : RdA w A es) {k : Nat} (hk : k < es.length) :
    ∃ g off, A = some ⟨g, off, none⟩ ∧ g < w.heap.size ∧ Cells w g (off + k * 4) es[k] := by
  rcases h with rfl | ⟨g, off, rfl, hg, hc⟩
  · simp at hk
  · exact ⟨g, off, rfl, hg, hc k hk⟩
theorem RdA.below {w w' : World} {A : Option Addr} {es : List At} (h : RdA w A es) (hb : Below w.heap.size w w') : RdA w' A es := by
  rcases h with rfl | ⟨g, off, rfl, hg, hc⟩
  · exact .inl rfl
  · exact .inr ⟨g, off, rfl, Nat.lt_of_lt_of_le hg hb.size, fun i hi => (hc i hi).below hb hg⟩
theorem RdA.take {w : World} {A : Option Addr} {es : List At} (h : RdA w A es) (k : Nat) : RdA w A (es.take k) := by
  rcases h with rfl | ⟨g, off, rfl, hg, hc⟩
  · exact .inl (by simp)
  · exact .inr ⟨g, off, rfl, hg, fun i hi => by
      have hi' : i < es.length := by simp at hi; omega
      rw [List.getElem_take]; exact hc i hi'⟩
theorem flat_length (es : List At) : (es.flatMap cellsA).length = es.length * 4 := by
  induction es with
  | nil => rfl
  | cons a r ih => rw [List.flatMap_cons, List.length_append, ih]; simp [cellsA]; omega
theorem flat_at : ∀ (es : List At) (i : Nat) (h : i < es.length) (j : Nat), j < 4 → (es.flatMap cellsA)[i * 4 + j]? = (cellsA es[i])[j]?
  | [], _, h, _, _ => by simp at h
  | a :: r, 0, _, j, hj => by
    rw [List.flatMap_cons, List.getElem?_append_left (by simp [cellsA]; omega)]; simp
  | a :: r, i + 1, h, j, hj => by
    rw [List.flatMap_cons, List.getElem?_append_right (by simp [cellsA]; omega)]
    have e : (i + 1) * 4 + j - (cellsA a).length = i * 4 + j := by simp [cellsA]; omega
    rw [e, flat_at r i (by simpa using h) j hj]; rfl
theorem flat_one (es : List At) : ∀ v ∈ es.flatMap cellsA, v.oneCell' = true := by
  intro v hv
  obtain ⟨a, _, hv⟩ := List.mem_flatMap.1 hv
  simp [cellsA] at hv
  rcases hv with rfl | rfl | rfl | rfl <;> rfl
theorem RdA.src {w : World} {ad : Addr} {es : List At} (h : RdA w (some ad) es) : ∀ j v, (es.flatMap cellsA)[j]? = some v → w.cell? (ad.add j) = some v := by
  intro j v hv
  have hj : j < es.length * 4 := by
    have := (List.getElem?_eq_some_iff.1 hv).1
    rwa [flat_length] at this
  obtain ⟨g, off, e, _, hc⟩ := h.at_ (k := j / 4) (by omega)
  injection e with e
  subst e
  have e2 : j = j / 4 * 4 + j % 4 := by omega
  rw [e2, flat_at es (j / 4) (by omega) (j % 4) (Nat.mod_lt _ (by decide))] at hv
  rw [add_lit]
  have h4 : j % 4 = 0 ∨ j % 4 = 1 ∨ j % 4 = 2 ∨ j % 4 = 3 := by omega
  obtain ⟨c0, c1, c2, c3⟩ := hc
  rcases h4 with h4 | h4 | h4 | h4 <;> rw [h4] at hv <;> simp [cellsA] at hv <;> subst hv
  · rw [show off + j = off + j / 4 * 4 by omega]; exact c0
  · rw [show off + j = off + j / 4 * 4 + 1 by omega]; exact c1
  · rw [show off + j = off + j / 4 * 4 + 2 by omega]; exact c2
  · rw [show off + j = off + j / 4 * 4 + 3 by omega]; exact c3
/-- A block whose first cells are attributes. -/
theorem rda_of_flat {w : World} {g : Nat} {t : TypeId} {cur : Array Value} {es : List At} (hg : Blk w g t cur) (h : cur.toList.take (es.length * 4) = es.flatMap cellsA) : RdA w (some ⟨g, 0, none⟩) es := by
  refine .inr ⟨g, 0, rfl, hg.lt, fun i hi => ?_⟩
  have each : ∀ j, j < 4 → w.cell? ⟨g, 0 + i * 4 + j, none⟩ = (cellsA es[i])[j]? := fun j hj => by
    rw [hg.cell, ← flat_at es i hi j hj, ← h, List.getElem?_take_of_lt (by omega), Nat.zero_add]
    simp
  exact ⟨each 0 (by decide), each 1 (by decide), each 2 (by decide), each 3 (by decide)⟩
/-- A slice of attributes that the call itself made. -/
def OwnA (w : World) (base : Nat) (v : Value) (es : List At) : Prop := w.ownsRow base 49 4 v es.length (es.flatMap cellsA)
theorem OwnA.rd {w : World} {base : Nat} {v : Value} {es : List At} (h : OwnA w base v es) : ∃ A c, v = .slice A es.length c ∧ es.length ≤ c ∧ RdA w A es := by
  rcases h.2 with ⟨rfl, hn⟩ | ⟨g, cap, cur, rfl, _, hg, hc, _, _, ht⟩
  · have : es = [] := List.eq_nil_of_length_eq_zero hn
    subst this
    exact ⟨none, 0, rfl, by simp, .inl rfl⟩
  · exact ⟨_, cap, rfl, hc, rda_of_flat hg ht⟩
theorem OwnA.base_le {w : World} {base : Nat} {v : Value} {es : List At} (h : OwnA w base v es) : ∀ k, v.ownBlock = some k → base ≤ k := fun k hk => (h.lt k hk).1
theorem OwnA.none_ (w : World) (base : Nat) : OwnA w base (.slice none 0 0) [] := World.ownsRow_nil w base _ 4
/-- '[]api.Attr{}' -/
theorem OwnA.empty (w : World) (base : Nat) (hb : base ≤ w.heap.size) : OwnA (w.alloc (.cells #[] 49)) base (.slice (some ⟨w.heap.size, 0, none⟩) 0 0) [] :=
  ⟨by simp, .inr ⟨w.heap.size, 0, #[], rfl, hb, heap_alloc_new _ _, by simp, by simp, by simp, by simp⟩⟩
theorem OwnA.below {w w' : World} {base : Nat} {v : Value} {es : List At} (h : OwnA w base v es) (hb : Below w.heap.size w w') : OwnA w' base v es := by
  refine ⟨h.1, ?_⟩
  rcases h.2 with h2 | ⟨g, cap, cur, hv, hbg, hg, r⟩
  · exact .inl h2
  · exact .inr ⟨g, cap, cur, hv, hbg, (hb.block g (Array.getElem?_eq_some_iff.1 hg).1).trans hg, r⟩
theorem OwnA.less {w : World} {base base' : Nat} {v : Value} {es : List At} (h : OwnA w base v es) (hb : base' ≤ base) : OwnA w base' v es := by
  refine ⟨h.1, ?_⟩
  rcases h.2 with h2 | ⟨g, cap, cur, hv, hbg, r⟩
  · exact .inl h2
  · exact .inr ⟨g, cap, cur, hv, Nat.le_trans hb hbg, r⟩
theorem attr_info : (Try.prog.info? 49).map (fun i => (i.zero, i.size, i.bytes)) = some (some (.agg #[.string ⟨#[]⟩, .int .i64 0, .int .i64 0, .string ⟨#[]⟩]), 4, 48) := by kernel_rfl
theorem attr_has : ∃ i, Try.prog.info? 49 = some i ∧ i.zero = some (.agg #[.string ⟨#[]⟩, .int .i64 0, .int .i64 0, .string ⟨#[]⟩]) ∧ i.size = 4 ∧ i.bytes = 48 := by
  have h := attr_info
  cases hq : Try.prog.info? 49 with
  | none => rw [hq] at h; simp at h
  | some i => rw [hq] at h; simp at h; exact ⟨i, rfl, h.1, h.2.1, h.2.2⟩
theorem run_append_a (w : World) (base : Nat) (ty : TypeId) (v : Value) (es : List At) (hown : OwnA w base v es) (A : Option Addr) (fs : List At) (m c : Nat) (hr : RdA w A fs) (hm : fs.length = m)
    (hlb : (es.length + m) * 48 ≤ 140737488355328) (hbase : base ≤ w.heap.size) :
    ∃ v' w', (Builtin.append_ #[31, 31] ty #[v, .slice A m c]).run Try.prog w = .ok v' w' ∧ OwnA w' base v' (es ++ fs) ∧ w.grownBy w' v.ownBlock ∧ (v'.ownBlock = v.ownBlock ∨ v'.ownBlock = some w.heap.size) := by
  subst hm
  obtain ⟨i, hi, hz, hs, hby⟩ := attr_has
  rcases A with _ | ad
  · have hfs : fs = [] := by
      rcases hr with h | ⟨_, _, h, _⟩
      · exact h
      · cases h
    subst hfs
    refine ⟨v, w, ?_, by simpa using hown, World.grownBy.refl w _, .inl rfl⟩
    rcases hown.2 with ⟨rfl, _⟩ | ⟨g, cap, cur, rfl, _, _, hnc, _⟩
    · simp [Builtin.append_, run_underlying Try.underlying31, sizeOf, typeInfo, hi, Builtin.lenOf, Builtin.firstCells]
    · simp [Builtin.append_, run_underlying Try.underlying31, sizeOf, typeInfo, hi, Builtin.lenOf, Builtin.firstCells, hnc, storeCells]
  · obtain ⟨v', w', hrun, h2, h3, _, h5⟩ := run_append_own_at (P := Try.prog) w base 31 ty 49 i _ 4 48 Try.underlying31 hi hz hs hby rfl (by omega) v es.length (es.flatMap cellsA) hown ad fs.length c (fs.flatMap cellsA) (flat_length fs) hr.src (flat_one fs) (by unfold maxLen; omega) hlb hbase
    refine ⟨v', w', hrun, ?_, h3, h5⟩
    unfold OwnA
    rw [List.length_append, List.flatMap_append]
    exact h2
/-- The same as one operation of a region that draws. -/
theorem op_append_a {w : World} {o : Oper} {a : Act} {K : Act → World → Prop} {Q : Exit → Act → World → Prop} (s x : Operand)
    (ho : o.op = .call { callee := .builtin .append, args := #[s, x], argTypes := #[31, 31] }) (base : Nat)
    (v : Value) (es : List At) (hs : a.eval s = v) (hown : OwnA w base v es) (A : Option Addr) (fs : List At) (m c : Nat) (hx : a.eval x = .slice A m c) (hr : RdA w A fs) (hm : fs.length = m)
    (hlb : (es.length + m) * 48 ≤ 140737488355328) (hbase : base ≤ w.heap.size)
    (h : ∀ v' w', OwnA w' base v' (es ++ fs) → (∀ w0, Below base w0 w → Below base w0 w') → K (a.put o.dst v') w') : Oper.wp Try.prog o a w K Q := by
  obtain ⟨v', w', hrun, h2, h3, h4⟩ := run_append_a w base o.type v es hown A fs m c hr hm hlb hbase
  unfold Oper.wp execOp
  simp only [ho, resolve, invoke, builtin, Sem.run_bind, Sem.run_pure, Result.andThen_ok, List.map_toArray, List.map_cons, List.map_nil, hs, hx, hrun]
  exact h v' w' h2 (fun w0 hb => hb.grown h3 hbase hown.base_le)
/-- One attribute in a block of its own, as append of one lays it. -/
theorem rda_one (w : World) (a : At) (t : TypeId) : RdA (w.alloc (.cells #[.string ⟨a.n.toArray⟩, .int .i64 a.k, .int .i64 a.i, .string ⟨a.t.toArray⟩] t)) (some ⟨w.heap.size, 0, none⟩) [a] :=
  rda_of_flat (Blk.new w t _) rfl
theorem rda_two (w : World) (a b : At) (t : TypeId) : RdA (w.alloc (.cells #[.string ⟨a.n.toArray⟩, .int .i64 a.k, .int .i64 a.i, .string ⟨a.t.toArray⟩, .string ⟨b.n.toArray⟩, .int .i64 b.k, .int .i64 b.i, .string ⟨b.t.toArray⟩] t)) (some ⟨w.heap.size, 0, none⟩) [a, b] :=
  rda_of_flat (Blk.new w t _) rfl
/-- A cut off the front, as the model spells it. -/
theorem run_cutA {w : World} {A : Option Addr} {es : List At} {n cap k : Nat} (hr : RdA w A es) (hn : es.length = n) (hk : k ≤ n) (hc : n ≤ cap) :
    ∃ A', (∀ W, (Instr.slice 31 (.slice A n cap) (some (.int .i64 (k : Int))) none none).run Try.prog W = .ok (.slice A' (n - k) (cap - k)) W) ∧ RdA w A' (es.drop k) := by
  by_cases hck : cap = k
  · refine ⟨A, fun W => ?_, .inl (List.drop_eq_nil_of_le (by omega))⟩
    have h1 : (0 : Int) ≤ (k : Int) := by omega
    have h2 : (k : Int) ≤ (n : Int) := by omega
    subst hck
    go_simp
  · refine ⟨A.map fun x => x.add (k * 4), fun W => ?_, ?_⟩
    · have h1 : (0 : Int) ≤ (k : Int) := by omega
      have h2 : (k : Int) ≤ (n : Int) := by omega
      go_simp
    · rcases hr with rfl | ⟨g, off, rfl, hg, hcell⟩
      · exact .inl (by simp)
      · refine .inr ⟨g, off + k * 4, by simp [add_lit], hg, fun i hi => ?_⟩
        have hi' : k + i < es.length := by simp at hi; omega
        rw [List.getElem_drop, show off + k * 4 + i * 4 = off + (k + i) * 4 by omega]; exact hcell (k + i) hi'
/-- A cut off the end, as the model spells it. -/
theorem run_headA (A : Option Addr) (n cap k : Nat) (hk : k ≤ n) (hc : n ≤ cap) (W : World) :
    (Instr.slice 31 (.slice A n cap) none (some (.int .i64 (k : Int))) none).run Try.prog W = .ok (.slice A k cap) W := by
  have h1 : (0 : Int) ≤ (k : Int) := by omega
  have h2 : (k : Int) ≤ (cap : Int) := by omega
  go_simp
section
variable {H : Type} {enc : TypeId × Value → H} {P : Program} {w : World} {base : Nat} {spare : Nat → Bool} {held : Bool}
/-- A plain address: where there is a cell at all. -/
theorem plain_atA {a : Addr} {v : Value} (h : w.cell? a = some v) : ∃ b off, a = ⟨b, off, none⟩ ∧ b < w.heap.size := by
  obtain ⟨b, off, spot⟩ := a
  have hs : spot = none := by simpa using World.cell?_spot h
  subst hs
  exact ⟨b, off, rfl, World.block_lt_of_cell? w _ h⟩
end
end Go.Proofs.Ytnfigjggjmncdaa
namespace Go.Proofs.Ytnfigjggjmncdaa
open Go.RowKit Go.Sort Ev
set_option maxRecDepth 100000 in
theorem rightAttr_at (n : List UInt8) (k i : Int) (t : List UInt8) (w : World) (hn : n.length ≤ 9223372036854775807) (ht : t.length ≤ 9223372036854775807) :
    Calls Try.prog 19 #[.agg #[.string ⟨n.toArray⟩, .int .i64 k, .int .i64 i, .string ⟨t.toArray⟩]] w fun e w' => e = .returned (.bool (ok ⟨n, k, i, t⟩)) ∧ Grown w w' := by
  have hE : Hid (ok ⟨n, k, i, t⟩ = (decide (1 ≤ n.length) && decide (n.length ≤ 16) && Vals.right k i t)) := rfl
  have hW := Lib.hid ((Grown.refl w).alloc (.cells #[.string ⟨n.toArray⟩, .int .i64 k, .int .i64 i, .string ⟨t.toArray⟩] 49))
  by_cases c1 : 1 ≤ n.length
  · have d1 : decide ((1 : Int) ≤ (n.length : Int)) = true := by simp; omega
    by_cases c2 : n.length ≤ 16
    · have d2 : decide ((n.length : Int) ≤ 16) = true := by simp; omega
      have HE : Hid (ok ⟨n, k, i, t⟩ = Vals.right k i t) := by show _ = _; rw [hE.out]; simp [c1, c2]
      clear hE c1 c2
      go_enter Try.func19, Try.ntmps19
      go_wp2_with fail
      refine (right_gr k i t _ ht).mono ?_
      rintro e w1 ⟨rfl, hg⟩
      go_wp2_with fail
      all_goals (go_ret; exact ⟨ret_bool (by rw [HE.out]), hW.out.trans hg⟩)
    · have d2 : decide ((n.length : Int) ≤ 16) = false := by simp; omega
      have HE : Hid (ok ⟨n, k, i, t⟩ = false) := by show _ = _; rw [hE.out]; simp [c2]
      clear hE c1 c2
      go_enter Try.func19, Try.ntmps19
      go_wp2_with fail
      go_ret
      exact ⟨ret_bool HE.out.symm, hW.out⟩
  · have d1 : decide ((1 : Int) ≤ (n.length : Int)) = false := by simp; omega
    have HE : Hid (ok ⟨n, k, i, t⟩ = false) := by show _ = _; rw [hE.out]; simp [c1]
    clear hE c1
    go_enter Try.func19, Try.ntmps19
    go_wp2_with fail
    go_ret
    exact ⟨ret_bool HE.out.symm, hW.out⟩
set_option maxRecDepth 100000 in
theorem efew_at (A : Option Addr) (es : List At) (n c : Nat) (hn : es.length = n) (hm : n ≤ maxLen) (hb : ∀ a ∈ es, a.n.length ≤ maxLen ∧ a.t.length ≤ maxLen) (w : World) (hr : RdA w A es) :
    Calls Try.prog 13 #[.slice A n c] w fun e w' => e = .returned (.bool (decide (Few es))) ∧ w' = w := by
  have HN := Lib.hid hn
  rw [maxLen_num] at hm
  simp only [maxLen_num] at hb
  clear hn
  go_enter Try.func13, Try.ntmps13
  go_wp2_with fail
  go_loopw [3] (fun i wr => ∃ k : Nat, k ≤ n ∧ i = .int .i64 (k : Int) ∧ wr = w ∧ Hid (∀ a ∈ es.take k, a.n.length ≤ 100 ∧ a.t.length ≤ 300)) (fun i _ => n - (intOf i).toNat)
  case atStart => exact ⟨0, by omega, rfl, rfl, by show ∀ _, _; simp⟩
  case round =>
    obtain ⟨k, hk, rfl, rfl, HA⟩ := hrel
    by_cases hlt : k < n
    · have hk' : k < es.length := by rw [HN.out]; exact hlt
      obtain ⟨g, off, rfl, hg, c0, c1, c2, c3⟩ := hr.at_ hk'
      have hmem := List.getElem_mem hk'
      obtain ⟨b1, b2⟩ := hb _ hmem
      have HT : Hid (es.take (k + 1) = es.take k ++ [es[k]]) := List.take_succ_eq_append_getElem hk'
      have HM := Lib.hid hmem
      generalize es[k] = z at *
      clear hmem hb
      obtain ⟨zn, zk, zi, zt⟩ := z
      by_cases d1 : zn.length ≤ 100
      · have e1 : decide ((100 : Int) < (zn.length : Int)) = false := by simp; omega
        by_cases d2 : zt.length ≤ 300
        · have e2 : decide ((300 : Int) < (zt.length : Int)) = false := by simp; omega
          have HA2 : Hid (∀ a ∈ es.take (k + 1), a.n.length ≤ 100 ∧ a.t.length ≤ 300) := by
            show ∀ _, _
            rw [HT.out]
            intro a ha
            rcases List.mem_append.1 ha with ha | ha
            · exact HA.out a ha
            · simp at ha; subst ha; exact ⟨d1, d2⟩
          clear d1 d2 HA HT
          go_wp2_with fail
          go_roundw
          case rel => exact ⟨k + 1, by omega, by go_num, trivial, HA2⟩
          case measure => simp [intOf]; omega
        · have e2 : decide ((300 : Int) < (zt.length : Int)) = true := by simp; omega
          have HF : Hid (decide (Few es) = false) := decide_eq_false fun h => d2 (h.2 _ HM.out).2
          clear d1 d2 HA HT HM
          go_wp2_with fail
          go_ret
          exact ⟨ret_bool HF.out.symm, rfl⟩
      · have e1 : decide ((100 : Int) < (zn.length : Int)) = true := by simp; omega
        have HF : Hid (decide (Few es) = false) := decide_eq_false fun h => d1 (h.2 _ HM.out).1
        clear d1 HA HT HM
        go_wp2_with fail
        go_ret
        exact ⟨ret_bool HF.out.symm, rfl⟩
    · have HF : Hid (decide (Few es) = decide ((n : Int) ≤ 40)) := by
        refine decide_eq_decide.2 ?_
        have e : es.take k = es := List.take_of_length_le (by rw [HN.out]; omega)
        have h := HA.out
        rw [e] at h
        unfold Few
        rw [HN.out]
        exact ⟨fun h => by omega, fun h' => ⟨by omega, h⟩⟩
      clear HA hb
      go_wp2_with fail
      go_ret
      exact ⟨ret_bool HF.out.symm, rfl⟩
end Go.Proofs.Ytnfigjggjmncdaa
namespace Go.Proofs.Ytnfigjggjmncdaa
open Go.RowKit Go.Sort Ev
/-- What Get tells. -/
def gotV : Option At → Value
  | some a => .tuple #[.agg #[.int .i64 a.k, .int .i64 a.i, .string ⟨a.t.toArray⟩], .bool true]
  | none => .tuple #[.agg #[.int .i64 0, .int .i64 0, .string ⟨#[]⟩], .bool false]
theorem ret_got {r s : Option At} (h : r = s) : Ending.returned (gotV r) = .returned (gotV s) := by rw [h]
theorem take_ne {es : List At} {s : List UInt8} {k : Nat} (h : ∀ j (hj : j < es.length), j < k → es[j].n ≠ s) (hk : ∀ (hj : k < es.length), es[k].n ≠ s) : ∀ j (hj : j < es.length), j < k + 1 → es[j].n ≠ s := by
  intro j hj hlt
  rcases Nat.lt_or_ge j k with h1 | h1
  · exact h j hj h1
  · obtain rfl : j = k := by omega
    exact hk hj
set_option maxRecDepth 100000 in
set_option maxHeartbeats 1000000 in
theorem get_at (A : Option Addr) (es : List At) (n c : Nat) (hn : es.length = n) (hm : n ≤ maxLen) (s : List UInt8) (w : World) (hr : RdA w A es) :
    Calls Try.prog 25 #[.slice A n c, .string ⟨s.toArray⟩] w fun e w' => e = .returned (gotV (find es s)) ∧ Below w.heap.size w w' := by
  have HN := Lib.hid hn
  rw [maxLen_num] at hm
  clear hn
  have hB0 := Blk.new w 45 #[.int .i64 0, .int .i64 0, .string ⟨#[]⟩]
  have hb0 : Below w.heap.size w (w.alloc (.cells #[.int .i64 0, .int .i64 0, .string ⟨#[]⟩] 45)) := (Below.refl _ _).alloc (Nat.le_refl _) _
  go_enter Try.func25, Try.ntmps25
  go_wp2_with fail
  go_loopw [10] (fun i wr => ∃ k : Nat, k ≤ n ∧ i = .int .i64 (k : Int) ∧ Hid (Below w.heap.size w wr) ∧ Hid (Blk wr w.heap.size 45 #[.int .i64 0, .int .i64 0, .string ⟨#[]⟩]) ∧ Hid (∀ j (hj : j < es.length), j < k → es[j].n ≠ s)) (fun i _ => n - (intOf i).toNat)
  case atStart => exact ⟨0, by omega, rfl, hb0, hB0, fun j hj h => absurd h (by omega)⟩
  case round =>
    obtain ⟨k, hk, rfl, HB, HZ, HA⟩ := hrel
    clear hB0 hb0
    by_cases hlt : k < n
    · have hk' : k < es.length := by rw [HN.out]; exact hlt
      obtain ⟨g, off, rfl, hg, hC⟩ := (hr.below HB.out).at_ hk'
      obtain ⟨z, hz⟩ : ∃ z, es[k] = z := ⟨_, rfl⟩
      have HE := Lib.hid hz
      rw [hz] at hC
      clear hz hr
      obtain ⟨zn, zk, zi, zt⟩ := z
      obtain ⟨c0, c1, c2, c3⟩ := hC
      obtain ⟨d0, d1, d2, f0, f1, f2⟩ := blk3 HZ.out
      have hb1 := Lib.hid (HB.out.alloc HB.out.size (.cells #[.string ⟨zn.toArray⟩, .int .i64 zk, .int .i64 zi, .string ⟨zt.toArray⟩] 49))
      have hz1 := Lib.hid (HZ.out.alloc (.cells #[.string ⟨zn.toArray⟩, .int .i64 zk, .int .i64 zi, .string ⟨zt.toArray⟩] 49))
      have hne : w.heap.size < wr.heap.size := HZ.out.lt
      by_cases he : zn = s
      · have HF : Hid (find es s = some ⟨zn, zk, zi, zt⟩) := by
          show _ = _
          rw [← HE.out]
          exact find_at k hk' (fun j hj => HA.out j (by omega) hj) (by rw [HE.out]; exact he)
        have hd : (zn == s) = true := by simpa using he
        clear HA he
        go_wp2_with fail
        have hR := (((HZ.out.put 0 (.int .i64 zk)).put 1 (.int .i64 zi)).put 2 (.string ⟨zt.toArray⟩)).alloc (.cells #[.string ⟨zn.toArray⟩, .int .i64 zk, .int .i64 zi, .string ⟨zt.toArray⟩] 49)
        have hb4 := (((HB.out.setCell (p := ⟨w.heap.size, 0, none⟩) (Nat.le_refl _) (.int .i64 zk)).setCell (p := ⟨w.heap.size, 1, none⟩) (Nat.le_refl _) (.int .i64 zi)).setCell (p := ⟨w.heap.size, 2, none⟩) (Nat.le_refl _) (.string ⟨zt.toArray⟩)).alloc (by simp; omega) (.cells #[.string ⟨zn.toArray⟩, .int .i64 zk, .int .i64 zi, .string ⟨zt.toArray⟩] 49)
        generalize (((wr.setCell ⟨w.heap.size, 0, none⟩ (.int .i64 zk)).setCell ⟨w.heap.size, 1, none⟩ (.int .i64 zi)).setCell ⟨w.heap.size, 2, none⟩ (.string ⟨zt.toArray⟩)).alloc (.cells #[.string ⟨zn.toArray⟩, .int .i64 zk, .int .i64 zi, .string ⟨zt.toArray⟩] 49) = w4 at *
        have r0 : w4.cell? ⟨w.heap.size, 0, none⟩ = some (.int .i64 zk) := hR.cell 0
        have r1 : w4.cell? ⟨w.heap.size, 1, none⟩ = some (.int .i64 zi) := hR.cell 1
        have r2 : w4.cell? ⟨w.heap.size, 2, none⟩ = some (.string ⟨zt.toArray⟩) := hR.cell 2
        refine bodyPost_ret (v := .tuple #[.agg #[.int .i64 zk, .int .i64 zi, .string ⟨zt.toArray⟩], .bool true]) (by simp [results, Try.results25, go_sem, r0, r1, r2]) rfl ?_
        exact ⟨(ret_got HF.out).symm, hb4⟩
      · have HA2 : Hid (∀ j (hj : j < es.length), j < k + 1 → es[j].n ≠ s) := take_ne HA.out fun _ => by rw [HE.out]; exact he
        have hd : (zn == s) = false := by simpa using he
        clear HA he d0 d1 d2 f0 f1 f2
        go_wp2_with fail
        go_roundw
        case rel => exact ⟨k + 1, by omega, by go_num, hb1, hz1, HA2⟩
        case measure => simp [intOf]; omega
    · have HF : Hid (find es s = none) := find_none fun a ha => by
        obtain ⟨j, hj, rfl⟩ := List.getElem_of_mem ha
        exact HA.out j hj (by rw [HN.out] at hj; omega)
      obtain ⟨d0, d1, d2, f0, f1, f2⟩ := blk3 HZ.out
      clear HA
      go_wp2_with fail
      refine bodyPost_ret (v := .tuple #[.agg #[.int .i64 0, .int .i64 0, .string ⟨#[]⟩], .bool false]) (by simp [results, Try.results25, go_sem, d0, d1, d2]) rfl ?_
      exact ⟨(ret_got HF.out).symm, ((HB.out.setCell (Nat.le_refl _) _).setCell (Nat.le_refl _) _).setCell (Nat.le_refl _) _⟩
set_option maxRecDepth 100000 in
set_option maxHeartbeats 1000000 in
theorem refGet_at (A : Option Addr) (es : List At) (n c : Nat) (hn : es.length = n) (hm : n ≤ maxLen) (s : List UInt8) (w : World) (hr : RdA w A es) :
    Calls Try.prog 27 #[.slice A n c, .string ⟨s.toArray⟩] w fun e w' => e = .returned (gotV (find es s)) ∧ Below w.heap.size w w' := by
  have HN := Lib.hid hn
  rw [maxLen_num] at hm
  clear hn
  have hB0 := Blk.new w 45 #[.int .i64 0, .int .i64 0, .string ⟨#[]⟩]
  have hb0 : Below w.heap.size w (w.alloc (.cells #[.int .i64 0, .int .i64 0, .string ⟨#[]⟩] 45)) := (Below.refl _ _).alloc (Nat.le_refl _) _
  go_enter Try.func27, Try.ntmps27
  go_wp2_with fail
  go_loopw [6] (fun i wr => ∃ k : Nat, k ≤ n ∧ i = .int .i64 (k : Int) ∧ Hid (Below w.heap.size w wr) ∧ Hid (Blk wr w.heap.size 45 #[.int .i64 0, .int .i64 0, .string ⟨#[]⟩]) ∧ Hid (∀ j (hj : j < es.length), j < k → es[j].n ≠ s)) (fun i _ => n - (intOf i).toNat)
  case atStart => exact ⟨0, by omega, rfl, hb0, hB0, fun j hj h => absurd h (by omega)⟩
  case round =>
    obtain ⟨k, hk, rfl, HB, HZ, HA⟩ := hrel
    clear hB0 hb0
    by_cases hlt : k < n
    · have hk' : k < es.length := by rw [HN.out]; exact hlt
      obtain ⟨g, off, rfl, hg, hC⟩ := (hr.below HB.out).at_ hk'
      obtain ⟨z, hz⟩ : ∃ z, es[k] = z := ⟨_, rfl⟩
      have HE := Lib.hid hz
      rw [hz] at hC
      clear hz hr
      obtain ⟨zn, zk, zi, zt⟩ := z
      obtain ⟨c0, c1, c2, c3⟩ := hC
      obtain ⟨d0, d1, d2, f0, f1, f2⟩ := blk3 HZ.out
      by_cases he : zn = s
      · have HF : Hid (find es s = some ⟨zn, zk, zi, zt⟩) := by
          show _ = _
          rw [← HE.out]
          exact find_at k hk' (fun j hj => HA.out j (by omega) hj) (by rw [HE.out]; exact he)
        have hd : (zn == s) = true := by simpa using he
        clear HA he
        go_wp2_with fail
        refine bodyPost_ret (v := .tuple #[.agg #[.int .i64 zk, .int .i64 zi, .string ⟨zt.toArray⟩], .bool true]) (by simp [results, Try.results27, go_sem, d0, d1, d2]) rfl ?_
        exact ⟨(ret_got HF.out).symm, ((HB.out.setCell (Nat.le_refl _) _).setCell (Nat.le_refl _) _).setCell (Nat.le_refl _) _⟩
      · have HA2 : Hid (∀ j (hj : j < es.length), j < k + 1 → es[j].n ≠ s) := take_ne HA.out fun _ => by rw [HE.out]; exact he
        have hd : (zn == s) = false := by simpa using he
        clear HA he d0 d1 d2 f0 f1 f2
        go_wp2_with fail
        go_roundw
        case rel => exact ⟨k + 1, by omega, by go_num, HB, HZ, HA2⟩
        case measure => simp [intOf]; omega
    · have HF : Hid (find es s = none) := find_none fun a ha => by
        obtain ⟨j, hj, rfl⟩ := List.getElem_of_mem ha
        exact HA.out j hj (by rw [HN.out] at hj; omega)
      obtain ⟨d0, d1, d2, f0, f1, f2⟩ := blk3 HZ.out
      clear HA
      go_wp2_with fail
      refine bodyPost_ret (v := .tuple #[.agg #[.int .i64 0, .int .i64 0, .string ⟨#[]⟩], .bool false]) (by simp [results, Try.results27, go_sem, d0, d1, d2]) rfl ?_
      exact ⟨(ret_got HF.out).symm, ((HB.out.setCell (Nat.le_refl _) _).setCell (Nat.le_refl _) _).setCell (Nat.le_refl _) _⟩
end Go.Proofs.Ytnfigjggjmncdaa
namespace Go.Proofs.Ytnfigjggjmncdaa
open Go.RowKit Go.Sort Ev
/-- Does an event meet a predicate? -/
def meetsV (es : List At) (n : List UInt8) (o k i : Int) (t : List UInt8) : Bool :=
  match find es n with
  | some a => Preds.holds n o k i t a.k a.i a.t
  | none => false
theorem find_mem {es : List At} {s : List UInt8} {a : At} (h : find es s = some a) : a ∈ es := List.mem_of_find?_eq_some h
theorem pgot_some (A : Option Addr) (es : List At) (n c : Nat) (hn : es.length = n) (hm : n ≤ maxLen) (s : List UInt8) (an : List UInt8) (ak ai : Int) (at_ : List UInt8) (hf : find es s = some ⟨an, ak, ai, at_⟩) (w : World) (hr : RdA w A es) :
    Calls Try.prog 25 #[.slice A n c, .string ⟨s.toArray⟩] w fun e w' => e = .returned (.tuple #[.agg #[.int .i64 ak, .int .i64 ai, .string ⟨at_.toArray⟩], .bool true]) ∧ Below w.heap.size w w' := by
  have h := get_at A es n c hn hm s w hr
  rw [hf] at h
  exact h
theorem pgot_none (A : Option Addr) (es : List At) (n c : Nat) (hn : es.length = n) (hm : n ≤ maxLen) (s : List UInt8) (hf : find es s = none) (w : World) (hr : RdA w A es) :
    Calls Try.prog 25 #[.slice A n c, .string ⟨s.toArray⟩] w fun e w' => e = .returned (.tuple #[.agg #[.int .i64 0, .int .i64 0, .string ⟨#[]⟩], .bool false]) ∧ Below w.heap.size w w' := by
  have h := get_at A es n c hn hm s w hr
  rw [hf] at h
  exact h
set_option maxRecDepth 100000 in
set_option maxHeartbeats 1600000 in
theorem meets_at (n : List UInt8) (o k i : Int) (t : List UInt8) (A : Option Addr) (es : List At) (m c : Nat) (w : World) (hm : es.length = m) (hml : m ≤ maxLen) (hb : ∀ a ∈ es, a.n.length ≤ maxLen ∧ a.t.length ≤ maxLen) (hn : n.length ≤ 9223372036854775807) (hl : t.length ≤ 9223372036854775807) (hr : RdA w A es) :
    Calls Try.prog 22 #[.agg #[.string ⟨n.toArray⟩, .int .i64 o, .int .i64 k, .int .i64 i, .string ⟨t.toArray⟩], .slice A m c] w fun e w' => e = .returned (.bool (meetsV es n o k i t)) ∧ Below w.heap.size w w' := by
  have HM := Lib.hid hm
  have HB := Lib.hid hb
  clear hm hb
  obtain ⟨hP, hb0⟩ := box5 w 47 (.string ⟨n.toArray⟩) (.int .i64 o) (.int .i64 k) (.int .i64 i) (.string ⟨t.toArray⟩)
  have hr0 := hr.below hb0
  go_enter Try.func22, Try.ntmps22
  go_wp2_with fail
  generalize w.alloc (.cells #[.string ⟨n.toArray⟩, .int .i64 o, .int .i64 k, .int .i64 i, .string ⟨t.toArray⟩] 47) = w0 at *
  rcases hf : find es n with _ | ⟨an, ak, ai, at_⟩
  · have HF : Hid (meetsV es n o k i t = false) := by show _ = _; unfold meetsV; rw [hf]
    refine (pgot_none A es m c HM.out hml n hf w0 hr0).mono ?_
    rintro e w1 ⟨rfl, hb1⟩
    have hbw := below_next hb0 (Nat.le_refl _) hb1
    clear hf hr0 hb0 hb1 hr hP
    go_wp2_with fail
    go_ret
    exact ⟨ret_b HF.out.symm, hbw.alloc hbw.size _⟩
  · have HF : Hid (meetsV es n o k i t = Preds.holds n o k i t ak ai at_) := by show _ = _; unfold meetsV; rw [hf]
    have ha : at_.length ≤ maxLen := (HB.out _ (find_mem hf)).2
    rw [maxLen_num] at ha
    refine (pgot_some A es m c HM.out hml n an ak ai at_ hf w0 hr0).mono ?_
    rintro e w1 ⟨rfl, hb1⟩
    have hP1 := hP.below hb1 hP.lt
    have hbw := below_next hb0 (Nat.le_refl _) hb1
    obtain ⟨c0, c1, c2, c3, c4, _, _, _, _, _⟩ := blk5 hP1
    have lt0 : w.heap.size < w1.heap.size := hP1.lt
    have hbx := hbw.alloc hbw.size (.cells #[.int .i64 ak, .int .i64 ai, .string ⟨at_.toArray⟩] 45)
    clear hf hr0 hb0 hb1 hr hP
    go_wp2_with fail
    refine (holds_is n o k i t ak ai at_ _ hn hl ha _ HF.out.symm).mono ?_
    rintro e w2 ⟨rfl, hb2⟩
    have hby := below_next hbx (Nat.le_refl _) hb2
    clear hb2 hbx c0 c1 c2 c3 c4
    go_wp2_with fail
    go_ret
    exact ⟨rfl, hby⟩
theorem meets_is (n : List UInt8) (o k i : Int) (t : List UInt8) (A : Option Addr) (es : List At) (m c : Nat) (w : World) (hm : es.length = m) (hml : m ≤ maxLen) (hb : ∀ a ∈ es, a.n.length ≤ maxLen ∧ a.t.length ≤ maxLen) (hn : n.length ≤ 9223372036854775807) (hl : t.length ≤ 9223372036854775807) (hr : RdA w A es) (b : Bool) (hv : meetsV es n o k i t = b) :
    Calls Try.prog 22 #[.agg #[.string ⟨n.toArray⟩, .int .i64 o, .int .i64 k, .int .i64 i, .string ⟨t.toArray⟩], .slice A m c] w fun e w' => e = .returned (.bool b) ∧ Below w.heap.size w w' := by
  subst hv; exact meets_at n o k i t A es m c w hm hml hb hn hl hr
theorem rgot_some (A : Option Addr) (es : List At) (n c : Nat) (hn : es.length = n) (hm : n ≤ maxLen) (s : List UInt8) (an : List UInt8) (ak ai : Int) (at_ : List UInt8) (hf : find es s = some ⟨an, ak, ai, at_⟩) (w : World) (hr : RdA w A es) :
    Calls Try.prog 27 #[.slice A n c, .string ⟨s.toArray⟩] w fun e w' => e = .returned (.tuple #[.agg #[.int .i64 ak, .int .i64 ai, .string ⟨at_.toArray⟩], .bool true]) ∧ Below w.heap.size w w' := by
  have h := refGet_at A es n c hn hm s w hr
  rw [hf] at h
  exact h
theorem rgot_none (A : Option Addr) (es : List At) (n c : Nat) (hn : es.length = n) (hm : n ≤ maxLen) (s : List UInt8) (hf : find es s = none) (w : World) (hr : RdA w A es) :
    Calls Try.prog 27 #[.slice A n c, .string ⟨s.toArray⟩] w fun e w' => e = .returned (.tuple #[.agg #[.int .i64 0, .int .i64 0, .string ⟨#[]⟩], .bool false]) ∧ Below w.heap.size w w' := by
  have h := refGet_at A es n c hn hm s w hr
  rw [hf] at h
  exact h
set_option maxRecDepth 100000 in
set_option maxHeartbeats 1600000 in
theorem rmeets_at (n : List UInt8) (o k i : Int) (t : List UInt8) (A : Option Addr) (es : List At) (m c : Nat) (w : World) (hm : es.length = m) (hml : m ≤ maxLen) (hb : ∀ a ∈ es, a.n.length ≤ maxLen ∧ a.t.length ≤ maxLen) (hn : n.length ≤ 9223372036854775807) (hl : t.length ≤ 9223372036854775807) (hr : RdA w A es) :
    Calls Try.prog 24 #[.agg #[.string ⟨n.toArray⟩, .int .i64 o, .int .i64 k, .int .i64 i, .string ⟨t.toArray⟩], .slice A m c] w fun e w' => e = .returned (.bool (meetsV es n o k i t)) ∧ Below w.heap.size w w' := by
  have HM := Lib.hid hm
  have HB := Lib.hid hb
  clear hm hb
  obtain ⟨hP, hb0⟩ := box5 w 47 (.string ⟨n.toArray⟩) (.int .i64 o) (.int .i64 k) (.int .i64 i) (.string ⟨t.toArray⟩)
  have hr0 := hr.below hb0
  go_enter Try.func24, Try.ntmps24
  go_wp2_with fail
  generalize w.alloc (.cells #[.string ⟨n.toArray⟩, .int .i64 o, .int .i64 k, .int .i64 i, .string ⟨t.toArray⟩] 47) = w0 at *
  rcases hf : find es n with _ | ⟨an, ak, ai, at_⟩
  · have HF : Hid (meetsV es n o k i t = false) := by show _ = _; unfold meetsV; rw [hf]
    refine (rgot_none A es m c HM.out hml n hf w0 hr0).mono ?_
    rintro e w1 ⟨rfl, hb1⟩
    have hbw := below_next hb0 (Nat.le_refl _) hb1
    clear hf hr0 hb0 hb1 hr hP
    go_wp2_with fail
    go_ret
    exact ⟨ret_b HF.out.symm, hbw.alloc hbw.size _⟩
  · have HF : Hid (meetsV es n o k i t = Preds.holds n o k i t ak ai at_) := by show _ = _; unfold meetsV; rw [hf]
    have ha : at_.length ≤ maxLen := (HB.out _ (find_mem hf)).2
    rw [maxLen_num] at ha
    refine (rgot_some A es m c HM.out hml n an ak ai at_ hf w0 hr0).mono ?_
    rintro e w1 ⟨rfl, hb1⟩
    have hP1 := hP.below hb1 hP.lt
    have hbw := below_next hb0 (Nat.le_refl _) hb1
    obtain ⟨c0, c1, c2, c3, c4, _, _, _, _, _⟩ := blk5 hP1
    have lt0 : w.heap.size < w1.heap.size := hP1.lt
    have hbx := hbw.alloc hbw.size (.cells #[.int .i64 ak, .int .i64 ai, .string ⟨at_.toArray⟩] 45)
    clear hf hr0 hb0 hb1 hr hP
    go_wp2_with fail
    refine (rholds_is n o k i t ak ai at_ _ hn hl ha _ HF.out.symm).mono ?_
    rintro e w2 ⟨rfl, hb2⟩
    have hby := below_next hbx (Nat.le_refl _) hb2
    clear hb2 hbx c0 c1 c2 c3 c4
    go_wp2_with fail
    go_ret
    exact ⟨rfl, hby⟩
theorem rmeets_is (n : List UInt8) (o k i : Int) (t : List UInt8) (A : Option Addr) (es : List At) (m c : Nat) (w : World) (hm : es.length = m) (hml : m ≤ maxLen) (hb : ∀ a ∈ es, a.n.length ≤ maxLen ∧ a.t.length ≤ maxLen) (hn : n.length ≤ 9223372036854775807) (hl : t.length ≤ 9223372036854775807) (hr : RdA w A es) (b : Bool) (hv : meetsV es n o k i t = b) :
    Calls Try.prog 24 #[.agg #[.string ⟨n.toArray⟩, .int .i64 o, .int .i64 k, .int .i64 i, .string ⟨t.toArray⟩], .slice A m c] w fun e w' => e = .returned (.bool b) ∧ Below w.heap.size w w' := by
  subst hv; exact rmeets_at n o k i t A es m c w hm hml hb hn hl hr
end Go.Proofs.Ytnfigjggjmncdaa
