/- The document's own answer for layer 4: how texts and values stand. -/
import Derived.Test.YtcgmbgfbhdimeaaVComp
import Derived.BigQuiet
namespace Go.Proofs.Ytcgmbgfbhdimeaa
open Go.RowKit
theorem cmp_lt1 (k i : Int) (t : List UInt8) (k' i' : Int) (t' : List UInt8) (h : k < k') : Vals.cmp k i t k' i' t' = -1 := by
  unfold Vals.cmp Vals.cmpI; simp [h]
theorem cmp_gt1 (k i : Int) (t : List UInt8) (k' i' : Int) (t' : List UInt8) (h : k' < k) : Vals.cmp k i t k' i' t' = 1 := by
  unfold Vals.cmp Vals.cmpI; simp [h, show ¬ k < k' by omega]
theorem cmp_lt2 (k i : Int) (t : List UInt8) (i' : Int) (t' : List UInt8) (h : i < i') : Vals.cmp k i t k i' t' = -1 := by
  unfold Vals.cmp Vals.cmpI; simp [h]
theorem cmp_gt2 (k i : Int) (t : List UInt8) (i' : Int) (t' : List UInt8) (h : i' < i) : Vals.cmp k i t k i' t' = 1 := by
  unfold Vals.cmp Vals.cmpI; simp [h, show ¬ i < i' by omega]
theorem cmp_eq2 (k i : Int) (t : List UInt8) (t' : List UInt8) : Vals.cmp k i t k i t' = Vals.cmpT t t' := by
  unfold Vals.cmp Vals.cmpI; simp
set_option maxRecDepth 100000 in
theorem refCompare_at (k i : Int) (t : List UInt8) (k' i' : Int) (t' : List UInt8) (hl : t.length ≤ 9223372036854775807) (hl2 : t'.length ≤ 9223372036854775807) (w : World) :
    Calls Try.prog 79 #[.agg #[.int .i64 k, .int .i64 i, .string ⟨t.toArray⟩], .agg #[.int .i64 k', .int .i64 i', .string ⟨t'.toArray⟩]] w fun e w' => e = .returned (.int .i64 (Vals.cmp k i t k' i' t')) ∧ Below w.heap.size w w' := by
  have hb2 : Below w.heap.size w ((w.alloc (.cells #[.int .i64 k, .int .i64 i, .string ⟨t.toArray⟩] 24)).alloc (.cells #[.int .i64 k', .int .i64 i', .string ⟨t'.toArray⟩] 24)) := ((Below.refl _ _).alloc (Nat.le_refl _) _).alloc (by simp) _
  rcases Int.lt_trichotomy k k' with h | rfl | h
  · have HC := Lib.hid (cmp_lt1 k i t k' i' t' h)
    go_enter Try.func79, Try.ntmps79
    go_wp2_with fail
    go_ret
    exact ⟨ret_int HC.out.symm, hb2⟩
  · rcases Int.lt_trichotomy i i' with h | rfl | h
    · have HC := Lib.hid (cmp_lt2 k i t i' t' h)
      go_enter Try.func79, Try.ntmps79
      go_wp2_with fail
      go_ret
      exact ⟨ret_int HC.out.symm, hb2⟩
    · have HC := Lib.hid (cmp_eq2 k i t t')
      go_enter Try.func79, Try.ntmps79
      go_wp2_with fail
      refine (refCmpText_at t t' hl hl2 _).mono ?_
      rintro e w1 ⟨rfl, hb1⟩
      go_wp2_with fail
      go_ret
      exact ⟨ret_int HC.out.symm, hb2.trans (hb1.mono hb2.size)⟩
    · have HC := Lib.hid (cmp_gt2 k i t i' t' h)
      have h2 : ¬ i < i' := by omega
      have h3 : decide (i < i') = false := by simpa using h2
      go_enter Try.func79, Try.ntmps79
      go_wp2_with fail
      go_ret
      exact ⟨ret_int HC.out.symm, hb2⟩
  · have HC := Lib.hid (cmp_gt1 k i t k' i' t' h)
    have h2 : ¬ k < k' := by omega
    have h3 : decide (k < k') = false := by simpa using h2
    have h4 : (k == k') = false := by simp; omega
    go_enter Try.func79, Try.ntmps79
    go_wp2_with fail
    go_ret
    exact ⟨ret_int HC.out.symm, hb2⟩
theorem refCompare_is (k i : Int) (t : List UInt8) (k' i' : Int) (t' : List UInt8) (z : Int) (hz : Vals.cmp k i t k' i' t' = z) (hl : t.length ≤ 9223372036854775807) (hl2 : t'.length ≤ 9223372036854775807) (w : World) :
    Calls Try.prog 79 #[.agg #[.int .i64 k, .int .i64 i, .string ⟨t.toArray⟩], .agg #[.int .i64 k', .int .i64 i', .string ⟨t'.toArray⟩]] w fun e w' => e = .returned (.int .i64 z) ∧ Below w.heap.size w w' := by
  subst hz; exact refCompare_at k i t k' i' t' hl hl2 w
end Go.Proofs.Ytcgmbgfbhdimeaa
