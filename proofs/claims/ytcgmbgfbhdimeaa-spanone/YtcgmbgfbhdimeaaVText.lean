/- Texts: how they stand, by the program and by the document. -/
import Derived.Test.YtcgmbgfbhdimeaaVRight
import Derived.BigQuiet
namespace Go.Proofs.Ytcgmbgfbhdimeaa
open Go.RowKit
theorem drewN_more {w wr : World} (h : ∃ n, wr = w.drewN n) (m : Nat) : ∃ n, wr.drewN m = w.drewN n := by
  obtain ⟨n, rfl⟩ := h
  exact ⟨n + m, by simp [World.drewN, Nat.add_assoc]⟩
theorem below_of_drewN {w w' : World} (h : ∃ n, w' = w.drewN n) : Below w.heap.size w w' := by
  obtain ⟨n, rfl⟩ := h
  exact below_drewN (Below.refl _ _) n
set_option maxRecDepth 100000 in
theorem nanText_at (a : ByteArray) (w : World) : Calls Try.prog 82 #[.string a] w fun e w' => e = .returned (.bool false) ∧ w = w' := by
  go_enter Try.func82, Try.ntmps82
  go_wp2
  go_ret
  exact ⟨by simp, rfl⟩
set_option maxRecDepth 100000 in
theorem cmpText_at (a b : List UInt8) (w : World) : Calls Try.prog 72 #[.string ⟨a.toArray⟩, .string ⟨b.toArray⟩] w fun e w' => e = .returned (.int .i64 (Vals.cmpT a b)) ∧ w = w' := by
  go_enter Try.func72, Try.ntmps72
  go_wp2_with fail
  refine (nanText_at _ w).mono ?_
  rintro e w' ⟨rfl, rfl⟩
  go_wp2_with fail
  refine (nanText_at _ w).mono ?_
  rintro e w' ⟨rfl, rfl⟩
  go_wp2
  all_goals (go_ret; refine ⟨ret_int ?_, rfl⟩; simp_all [Vals.cmpT])
theorem less_same (a b : List UInt8) (q : Nat) (h1 : q < a.length) (h2 : q < b.length) (h : a[q] = b[q]) : Op.bytesLess (a.drop q) (b.drop q) = Op.bytesLess (a.drop (q + 1)) (b.drop (q + 1)) := by
  rw [List.drop_eq_getElem_cons h1, List.drop_eq_getElem_cons h2, h]
  simp [Op.bytesLess]
theorem less_here (a b : List UInt8) (q : Nat) (h1 : q < a.length) (h2 : q < b.length) (h : a[q] ≠ b[q]) : Op.bytesLess (a.drop q) (b.drop q) = decide (a[q].toNat < b[q].toNat) := by
  rw [List.drop_eq_getElem_cons h1, List.drop_eq_getElem_cons h2]
  simp [Op.bytesLess, h, UInt8.lt_iff_toNat_lt]
theorem less_end (a b : List UInt8) (q : Nat) (h1 : q ≤ a.length) (h2 : q ≤ b.length) (h : q = a.length ∨ q = b.length) : Op.bytesLess (a.drop q) (b.drop q) = decide (a.length < b.length) := by
  rcases Nat.lt_or_ge q b.length with h3 | h3
  · obtain rfl : q = a.length := by omega
    rw [List.drop_length, List.drop_eq_getElem_cons h3]
    simp [Op.bytesLess, h3]
  · obtain rfl : q = b.length := by omega
    rw [List.drop_length]
    simp [Op.bytesLess]; omega
set_option maxRecDepth 100000 in
theorem refLess_dn (a b : List UInt8) (hl : a.length ≤ 9223372036854775807) (hl2 : b.length ≤ 9223372036854775807) (w : World) :
    Calls Try.prog 64 #[.string ⟨a.toArray⟩, .string ⟨b.toArray⟩] w fun e w' => e = .returned (.bool (Op.bytesLess a b)) ∧ ∃ n, w' = w.drewN n := by
  go_enter Try.func64, Try.ntmps64
  go_wp2_with fail
  go_loopw [5] (fun x wr => ∃ q : Nat, q ≤ a.length ∧ q ≤ b.length ∧ x = .int .i64 (q : Int) ∧ (∃ n, wr = w.drewN n) ∧ Hid (Op.bytesLess a b = Op.bytesLess (a.drop q) (b.drop q))) (fun x _ => a.length - (intOf x).toNat)
  case atStart => exact ⟨0, by omega, by omega, rfl, ⟨0, rfl⟩, rfl⟩
  case round =>
    obtain ⟨q, hq1, hq2, rfl, hbr, HE⟩ := hrel
    by_cases c1 : q < a.length
    · by_cases c2 : q < b.length
      · have d1 : decide (q < a.length) = true := by simpa using c1
        have d2 : decide (q < b.length) = true := by simpa using c2
        have hx : ∀ h, (⟨a.toArray⟩ : ByteArray)[q]'h = a[q] := fun _ => rfl
        have hy : ∀ h, (⟨b.toArray⟩ : ByteArray)[q]'h = b[q] := fun _ => rfl
        by_cases he : a[q] = b[q]
        · have HE2 := Lib.hid (HE.out.trans (less_same a b q c1 c2 he))
          have d3 : (((a[q].toNat : Nat) : Int) != ((b[q].toNat : Nat) : Int)) = false := by simp [he]
          clear HE he
          go_wp2_with fail
          go_quiet (fail)
          have hbn : ∃ n, wr.drewN nq = w.drewN n := drewN_more hbr nq
          generalize wr.drewN nq = w2 at *
          go_wp2_with fail
          go_roundw
          case rel => exact ⟨q + 1, by omega, by omega, by go_num, hbn, HE2⟩
          case measure => simp [intOf]; omega
        · have HE2 := Lib.hid (HE.out.trans (less_here a b q c1 c2 he))
          have d3 : (((a[q].toNat : Nat) : Int) != ((b[q].toNat : Nat) : Int)) = true := by
            have : a[q].toNat ≠ b[q].toNat := fun h => he (UInt8.toNat_inj.1 h)
            simp; omega
          clear HE he
          go_wp2_with fail
          go_quiet (fail)
          have hbn : ∃ n, wr.drewN nq = w.drewN n := drewN_more hbr nq
          generalize wr.drewN nq = w2 at *
          go_wp2_with fail
          go_quiet (fail)
          have hbn2 : ∃ n, w2.drewN nq = w.drewN n := drewN_more hbn nq
          generalize w2.drewN nq = w3 at *
          go_wp2_with fail
          go_ret
          exact ⟨congrArg (fun x => Ending.returned (Value.bool x)) (by rw [HE2.out]), hbn2⟩
      · have d1 : decide (q < a.length) = true := by simpa using c1
        have d2 : decide (q < b.length) = false := by simpa using c2
        have HE2 := Lib.hid (HE.out.trans (less_end a b q hq1 hq2 (.inr (by omega))))
        go_wp2_with fail
        go_ret
        exact ⟨congrArg (fun x => Ending.returned (Value.bool x)) (by rw [HE2.out]), hbr⟩
    · have d1 : decide (q < a.length) = false := by simpa using c1
      have HE2 := Lib.hid (HE.out.trans (less_end a b q hq1 hq2 (.inl (by omega))))
      go_wp2_with fail
      go_ret
      exact ⟨congrArg (fun x => Ending.returned (Value.bool x)) (by rw [HE2.out]), hbr⟩
set_option maxRecDepth 100000 in
theorem refCmpText_dn (a b : List UInt8) (hl : a.length ≤ 9223372036854775807) (hl2 : b.length ≤ 9223372036854775807) (w : World) :
    Calls Try.prog 36 #[.string ⟨a.toArray⟩, .string ⟨b.toArray⟩] w fun e w' => e = .returned (.int .i64 (Vals.cmpT a b)) ∧ ∃ n, w' = w.drewN n := by
  by_cases he : a = b
  · subst he
    have HE := Lib.hid ((Vals.cmpT_zero a a).2 rfl)
    go_enter Try.func36, Try.ntmps36
    go_wp2_with fail
    go_ret
    exact ⟨ret_int HE.out.symm, 0, rfl⟩
  · have hd : (a == b) = false := by simpa using he
    have HE : Hid (∀ c, Op.bytesLess a b = c → Vals.cmpT a b = if c then -1 else 1) := by
      intro c hc
      unfold Vals.cmpT
      rw [hc, if_neg he]
    clear he
    cases hc : Op.bytesLess a b with
    | false =>
      have HC := Lib.hid (HE.out _ hc)
      have hL := refLess_dn a b hl hl2 w
      rw [hc] at hL
      clear hc HE
      go_enter Try.func36, Try.ntmps36
      go_wp2_with fail
      refine hL.mono ?_
      rintro e w1 ⟨rfl, hb1⟩
      go_wp2_with fail
      go_ret
      exact ⟨ret_int HC.out.symm, hb1⟩
    | true =>
      have HC := Lib.hid (HE.out _ hc)
      have hL := refLess_dn a b hl hl2 w
      rw [hc] at hL
      clear hc HE
      go_enter Try.func36, Try.ntmps36
      go_wp2_with fail
      refine hL.mono ?_
      rintro e w1 ⟨rfl, hb1⟩
      go_wp2_with fail
      go_ret
      exact ⟨ret_int HC.out.symm, hb1⟩
theorem refLess_at (a b : List UInt8) (hl : a.length ≤ 9223372036854775807) (hl2 : b.length ≤ 9223372036854775807) (w : World) :
    Calls Try.prog 64 #[.string ⟨a.toArray⟩, .string ⟨b.toArray⟩] w fun e w' => e = .returned (.bool (Op.bytesLess a b)) ∧ Below w.heap.size w w' :=
  (refLess_dn a b hl hl2 w).mono fun _ _ ⟨h, k⟩ => ⟨h, below_of_drewN k⟩
theorem refCmpText_at (a b : List UInt8) (hl : a.length ≤ 9223372036854775807) (hl2 : b.length ≤ 9223372036854775807) (w : World) :
    Calls Try.prog 36 #[.string ⟨a.toArray⟩, .string ⟨b.toArray⟩] w fun e w' => e = .returned (.int .i64 (Vals.cmpT a b)) ∧ Below w.heap.size w w' :=
  (refCmpText_dn a b hl hl2 w).mono fun _ _ ⟨h, k⟩ => ⟨h, below_of_drewN k⟩
end Go.Proofs.Ytcgmbgfbhdimeaa
