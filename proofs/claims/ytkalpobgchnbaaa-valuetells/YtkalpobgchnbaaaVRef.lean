/- The document's own answer for layer 4: how texts and values stand. -/
import Derived.Test.YtkalpobgchnbaaaVComp
import Derived.BigQuiet
namespace Go.Proofs.Ytkalpobgchnbaaa
open Go.RowKit
theorem less_same (a b : List UInt8) (q : Nat) (h1 : q < a.length) (h2 : q < b.length) (h : a[q] = b[q]) : Op.bytesLess (a.drop q) (b.drop q) = Op.bytesLess (a.drop (q + 1)) (b.drop (q + 1)) := by
  rw [List.drop_eq_getElem_cons h1, List.drop_eq_getElem_cons h2, h]
  simp [Op.bytesLess]
theorem less_here (a b : List UInt8) (q : Nat) (h1 : q < a.length) (h2 : q < b.length) (h : a[q] ≠ b[q]) : Op.bytesLess (a.drop q) (b.drop q) = decide (a[q].toNat < b[q].toNat) := by
  rw [List.drop_eq_getElem_cons h1, List.drop_eq_getElem_cons h2]
  simp [Op.bytesLess, h, UInt8.lt_iff_toNat_lt]
theorem less_end (a b : List UInt8) (q : Nat) (h1 : q ≤ a.length) (h2 : q ≤ b.length) (h : q = a.length ∨ q = b.length) : Op.bytesLess (a.drop q) (b.drop q) = decide (a.length < b.length) := by
  rcases Nat.lt_or_ge q b.length with h3 | h3
  · obtain rfl : q = a.length := by omega
    rw [List.drop_length, List.drop_eq_getElem_cons h3]
    simp [Op.bytesLess, h3]
  · obtain rfl : q = b.length := by omega
    rw [List.drop_length]
    simp [Op.bytesLess]; omega
set_option maxRecDepth 100000 in
theorem refLess_at (a b : List UInt8) (hl : a.length ≤ 9223372036854775807) (hl2 : b.length ≤ 9223372036854775807) (w : World) :
    Calls Try.prog 41 #[.string ⟨a.toArray⟩, .string ⟨b.toArray⟩] w fun e w' => e = .returned (.bool (Op.bytesLess a b)) ∧ Below w.heap.size w w' := by
  go_enter Try.func41, Try.ntmps41
  go_wp2_with fail
  go_loopw [5] (fun x wr => ∃ q : Nat, q ≤ a.length ∧ q ≤ b.length ∧ x = .int .i64 (q : Int) ∧ Below w.heap.size w wr ∧ Hid (Op.bytesLess a b = Op.bytesLess (a.drop q) (b.drop q))) (fun x _ => a.length - (intOf x).toNat)
  case atStart => exact ⟨0, by omega, by omega, rfl, Below.refl _ _, rfl⟩
  case round =>
    obtain ⟨q, hq1, hq2, rfl, hbr, HE⟩ := hrel
    by_cases c1 : q < a.length
    · by_cases c2 : q < b.length
      · have d1 : decide (q < a.length) = true := by simpa using c1
        have d2 : decide (q < b.length) = true := by simpa using c2
        have hx : ∀ h, (⟨a.toArray⟩ : ByteArray)[q]'h = a[q] := fun _ => rfl
        have hy : ∀ h, (⟨b.toArray⟩ : ByteArray)[q]'h = b[q] := fun _ => rfl
        by_cases he : a[q] = b[q]
        · have HE2 := Lib.hid (HE.out.trans (less_same a b q c1 c2 he))
          have d3 : (((a[q].toNat : Nat) : Int) != ((b[q].toNat : Nat) : Int)) = false := by simp [he]
          clear HE he
          go_wp2_with fail
          go_quiet (fail)
          have hbn : Below w.heap.size w (wr.drewN nq) := below_drewN hbr _
          generalize wr.drewN nq = w2 at *
          go_wp2_with fail
          go_roundw
          case rel => exact ⟨q + 1, by omega, by omega, by go_num, hbn, HE2⟩
          case measure => simp [intOf]; omega
        · have HE2 := Lib.hid (HE.out.trans (less_here a b q c1 c2 he))
          have d3 : (((a[q].toNat : Nat) : Int) != ((b[q].toNat : Nat) : Int)) = true := by
            have : a[q].toNat ≠ b[q].toNat := fun h => he (UInt8.toNat_inj.1 h)
            simp; omega
          clear HE he
          go_wp2_with fail
          go_quiet (fail)
          have hbn : Below w.heap.size w (wr.drewN nq) := below_drewN hbr _
          generalize wr.drewN nq = w2 at *
          go_wp2_with fail
          go_quiet (fail)
          have hbn2 : Below w.heap.size w (w2.drewN nq) := below_drewN hbn _
          generalize w2.drewN nq = w3 at *
          go_wp2_with fail
          go_ret
          exact ⟨congrArg (fun x => Ending.returned (Value.bool x)) (by rw [HE2.out]), hbn2⟩
      · have d1 : decide (q < a.length) = true := by simpa using c1
        have d2 : decide (q < b.length) = false := by simpa using c2
        have HE2 := Lib.hid (HE.out.trans (less_end a b q hq1 hq2 (.inr (by omega))))
        go_wp2_with fail
        go_ret
        exact ⟨congrArg (fun x => Ending.returned (Value.bool x)) (by rw [HE2.out]), hbr⟩
    · have d1 : decide (q < a.length) = false := by simpa using c1
      have HE2 := Lib.hid (HE.out.trans (less_end a b q hq1 hq2 (.inl (by omega))))
      go_wp2_with fail
      go_ret
      exact ⟨congrArg (fun x => Ending.returned (Value.bool x)) (by rw [HE2.out]), hbr⟩
set_option maxRecDepth 100000 in
theorem refCmpText_at (a b : List UInt8) (hl : a.length ≤ 9223372036854775807) (hl2 : b.length ≤ 9223372036854775807) (w : World) :
    Calls Try.prog 24 #[.string ⟨a.toArray⟩, .string ⟨b.toArray⟩] w fun e w' => e = .returned (.int .i64 (Vals.cmpT a b)) ∧ Below w.heap.size w w' := by
  by_cases he : a = b
  · subst he
    have HE := Lib.hid ((Vals.cmpT_zero a a).2 rfl)
    go_enter Try.func24, Try.ntmps24
    go_wp2_with fail
    go_ret
    exact ⟨ret_int HE.out.symm, Below.refl _ _⟩
  · have hd : (a == b) = false := by simpa using he
    have HE : Hid (∀ c, Op.bytesLess a b = c → Vals.cmpT a b = if c then -1 else 1) := by
      intro c hc
      unfold Vals.cmpT
      rw [hc, if_neg he]
    clear he
    cases hc : Op.bytesLess a b with
    | false =>
      have HC := Lib.hid (HE.out _ hc)
      have hL := refLess_at a b hl hl2 w
      rw [hc] at hL
      clear hc HE
      go_enter Try.func24, Try.ntmps24
      go_wp2_with fail
      refine hL.mono ?_
      rintro e w1 ⟨rfl, hb1⟩
      go_wp2_with fail
      go_ret
      exact ⟨ret_int HC.out.symm, hb1⟩
    | true =>
      have HC := Lib.hid (HE.out _ hc)
      have hL := refLess_at a b hl hl2 w
      rw [hc] at hL
      clear hc HE
      go_enter Try.func24, Try.ntmps24
      go_wp2_with fail
      refine hL.mono ?_
      rintro e w1 ⟨rfl, hb1⟩
      go_wp2_with fail
      go_ret
      exact ⟨ret_int HC.out.symm, hb1⟩
theorem cmp_lt1 (k i : Int) (t : List UInt8) (k' i' : Int) (t' : List UInt8) (h : k < k') : Vals.cmp k i t k' i' t' = -1 := by
  unfold Vals.cmp Vals.cmpI; simp [h]
theorem cmp_gt1 (k i : Int) (t : List UInt8) (k' i' : Int) (t' : List UInt8) (h : k' < k) : Vals.cmp k i t k' i' t' = 1 := by
  unfold Vals.cmp Vals.cmpI; simp [h, show ¬ k < k' by omega]
theorem cmp_lt2 (k i : Int) (t : List UInt8) (i' : Int) (t' : List UInt8) (h : i < i') : Vals.cmp k i t k i' t' = -1 := by
  unfold Vals.cmp Vals.cmpI; simp [h]
theorem cmp_gt2 (k i : Int) (t : List UInt8) (i' : Int) (t' : List UInt8) (h : i' < i) : Vals.cmp k i t k i' t' = 1 := by
  unfold Vals.cmp Vals.cmpI; simp [h, show ¬ i < i' by omega]
theorem cmp_eq2 (k i : Int) (t : List UInt8) (t' : List UInt8) : Vals.cmp k i t k i t' = Vals.cmpT t t' := by
  unfold Vals.cmp Vals.cmpI; simp
set_option maxRecDepth 100000 in
theorem refCompare_at (k i : Int) (t : List UInt8) (k' i' : Int) (t' : List UInt8) (hl : t.length ≤ 9223372036854775807) (hl2 : t'.length ≤ 9223372036854775807) (w : World) :
    Calls Try.prog 12 #[.agg #[.int .i64 k, .int .i64 i, .string ⟨t.toArray⟩], .agg #[.int .i64 k', .int .i64 i', .string ⟨t'.toArray⟩]] w fun e w' => e = .returned (.int .i64 (Vals.cmp k i t k' i' t')) ∧ Below w.heap.size w w' := by
  have hb2 : Below w.heap.size w ((w.alloc (.cells #[.int .i64 k, .int .i64 i, .string ⟨t.toArray⟩] 23)).alloc (.cells #[.int .i64 k', .int .i64 i', .string ⟨t'.toArray⟩] 23)) := ((Below.refl _ _).alloc (Nat.le_refl _) _).alloc (by simp) _
  rcases Int.lt_trichotomy k k' with h | rfl | h
  · have HC := Lib.hid (cmp_lt1 k i t k' i' t' h)
    go_enter Try.func12, Try.ntmps12
    go_wp2_with fail
    go_ret
    exact ⟨ret_int HC.out.symm, hb2⟩
  · rcases Int.lt_trichotomy i i' with h | rfl | h
    · have HC := Lib.hid (cmp_lt2 k i t i' t' h)
      go_enter Try.func12, Try.ntmps12
      go_wp2_with fail
      go_ret
      exact ⟨ret_int HC.out.symm, hb2⟩
    · have HC := Lib.hid (cmp_eq2 k i t t')
      go_enter Try.func12, Try.ntmps12
      go_wp2_with fail
      refine (refCmpText_at t t' hl hl2 _).mono ?_
      rintro e w1 ⟨rfl, hb1⟩
      go_wp2_with fail
      go_ret
      exact ⟨ret_int HC.out.symm, hb2.trans (hb1.mono hb2.size)⟩
    · have HC := Lib.hid (cmp_gt2 k i t i' t' h)
      have h2 : ¬ i < i' := by omega
      have h3 : decide (i < i') = false := by simpa using h2
      go_enter Try.func12, Try.ntmps12
      go_wp2_with fail
      go_ret
      exact ⟨ret_int HC.out.symm, hb2⟩
  · have HC := Lib.hid (cmp_gt1 k i t k' i' t' h)
    have h2 : ¬ k < k' := by omega
    have h3 : decide (k < k') = false := by simpa using h2
    have h4 : (k == k') = false := by simp; omega
    go_enter Try.func12, Try.ntmps12
    go_wp2_with fail
    go_ret
    exact ⟨ret_int HC.out.symm, hb2⟩
theorem refCompare_is (k i : Int) (t : List UInt8) (k' i' : Int) (t' : List UInt8) (z : Int) (hz : Vals.cmp k i t k' i' t' = z) (hl : t.length ≤ 9223372036854775807) (hl2 : t'.length ≤ 9223372036854775807) (w : World) :
    Calls Try.prog 12 #[.agg #[.int .i64 k, .int .i64 i, .string ⟨t.toArray⟩], .agg #[.int .i64 k', .int .i64 i', .string ⟨t'.toArray⟩]] w fun e w' => e = .returned (.int .i64 z) ∧ Below w.heap.size w w' := by
  subst hz; exact refCompare_at k i t k' i' t' hl hl2 w
end Go.Proofs.Ytkalpobgchnbaaa
