/- Package pred: which predicates are right, which orders an Op allows, which texts begin with which: by the program, and by the document. -/
import Derived.Test.YtcgmbgfbhdimeaaPMath
import Derived.Test.YtcgmbgfbhdimeaaVBox
import Derived.Laws.Strings2
namespace Go.Proofs.Ytcgmbgfbhdimeaa
open Go.RowKit
theorem ret_b {a b : Bool} (h : a = b) : Ending.returned (.bool a) = .returned (.bool b) := by rw [h]
theorem blk5 {w : World} {g : Nat} {t : TypeId} {a b c d e : Value} (hB : Blk w g t #[a, b, c, d, e]) :
    w.cell? ⟨g, 0, none⟩ = some a ∧ w.cell? ⟨g, 1, none⟩ = some b ∧ w.cell? ⟨g, 2, none⟩ = some c ∧ w.cell? ⟨g, 3, none⟩ = some d ∧ w.cell? ⟨g, 4, none⟩ = some e ∧
      w.frozen? ⟨g, 0, none⟩ = false ∧ w.frozen? ⟨g, 1, none⟩ = false ∧ w.frozen? ⟨g, 2, none⟩ = false ∧ w.frozen? ⟨g, 3, none⟩ = false ∧ w.frozen? ⟨g, 4, none⟩ = false :=
  ⟨hB.cell 0, hB.cell 1, hB.cell 2, hB.cell 3, hB.cell 4, hB.frozen 0, hB.frozen 1, hB.frozen 2, hB.frozen 3, hB.frozen 4⟩
theorem box5 (w : World) (t : TypeId) (a b c d e : Value) : Blk (w.alloc (.cells #[a, b, c, d, e] t)) w.heap.size t #[a, b, c, d, e] ∧ Below w.heap.size w (w.alloc (.cells #[a, b, c, d, e] t)) :=
  ⟨Blk.new w _ _, (Below.refl _ _).alloc (Nat.le_refl _) _⟩
set_option maxRecDepth 100000 in
theorem side_at (k i : Int) (t : List UInt8) (w : World) (hl : t.length ≤ 9223372036854775807) :
    Calls Try.prog 50 #[.agg #[.int .i64 k, .int .i64 i, .string ⟨t.toArray⟩]] w fun e w' => e = .returned (.bool (Preds.side k i t)) ∧ Below w.heap.size w w' := by
  obtain ⟨hB, hb0⟩ := box3 w 24 (.int .i64 k) (.int .i64 i) (.string ⟨t.toArray⟩)
  have HE : Hid (Preds.side k i t = (Vals.right k i t && decide (t.length ≤ 32))) := rfl
  go_enter Try.func50, Try.ntmps50
  go_wp2_with fail
  generalize w.alloc (.cells #[.int .i64 k, .int .i64 i, .string ⟨t.toArray⟩] 24) = w0 at *
  refine (right_at k i t w0 hl).mono ?_
  rintro e w1 ⟨rfl, hb1⟩
  obtain ⟨c0, c1, c2, _, _, _⟩ := blk3 (hB.below hb1 hB.lt)
  have hbw := below_next hb0 (Nat.le_refl _) hb1
  clear hB hb0 hb1
  cases hr : Vals.right k i t with
  | false =>
    have HF : Hid (Preds.side k i t = false) := by show _ = _; rw [HE.out, hr]; rfl
    clear hr HE
    go_wp2_with fail
    go_ret
    exact ⟨ret_b HF.out.symm, hbw⟩
  | true =>
    have HF : Hid (Preds.side k i t = decide ((t.length : Int) ≤ 32)) := by show _ = _; rw [HE.out, hr]; simp; omega
    clear hr HE
    go_wp2_with fail
    go_ret
    exact ⟨ret_b HF.out.symm, hbw⟩
theorem side_is (k i : Int) (t : List UInt8) (b : Bool) (hb : Preds.side k i t = b) (w : World) (hl : t.length ≤ 9223372036854775807) :
    Calls Try.prog 50 #[.agg #[.int .i64 k, .int .i64 i, .string ⟨t.toArray⟩]] w fun e w' => e = .returned (.bool b) ∧ Below w.heap.size w w' := by
  subst hb; exact side_at k i t w hl
set_option maxRecDepth 100000 in
set_option maxHeartbeats 1600000 in
theorem pright_name (n : List UInt8) (o k i : Int) (t : List UInt8) (w : World) (hn : n.length ≤ 9223372036854775807) (_hl : t.length ≤ 9223372036854775807) (h : n.length < 1 ∨ 16 < n.length) : Calls Try.prog 26 #[.agg #[.string ⟨n.toArray⟩, .int .i64 o, .int .i64 k, .int .i64 i, .string ⟨t.toArray⟩]] w fun e w' => e = .returned (.bool (Preds.right n o k i t)) ∧ Below w.heap.size w w' := by
  obtain ⟨hB, hb0⟩ := box5 w 40 (.string ⟨n.toArray⟩) (.int .i64 o) (.int .i64 k) (.int .i64 i) (.string ⟨t.toArray⟩)
  have HF : Hid (Preds.right n o k i t = false) := by
    show _ = _
    unfold Preds.right
    rcases h with h | h
    · rw [decide_eq_false (by omega : ¬ 1 ≤ n.length)]; rfl
    · rw [decide_eq_false (by omega : ¬ n.length ≤ 16)]; simp
  by_cases h1 : n.length < 1
  · have d1 : decide ((n.length : Int) < 1) = true := by simp; omega
    clear h h1
    go_enter Try.func26, Try.ntmps26
    go_wp2_with fail
    go_ret
    exact ⟨ret_b HF.out.symm, hb0⟩
  · have d1 : decide ((n.length : Int) < 1) = false := by simp; omega
    have d2 : decide ((16 : Int) < (n.length : Int)) = true := by simp; omega
    clear h h1
    go_enter Try.func26, Try.ntmps26
    go_wp2_with fail
    go_ret
    exact ⟨ret_b HF.out.symm, hb0⟩
set_option maxRecDepth 100000 in
set_option maxHeartbeats 1600000 in
theorem pright_exists (n : List UInt8) (k i : Int) (t : List UInt8) (w : World) (hn : n.length ≤ 9223372036854775807) (_hl : t.length ≤ 9223372036854775807) (h1 : 1 ≤ n.length) (h2 : n.length ≤ 16) : Calls Try.prog 26 #[.agg #[.string ⟨n.toArray⟩, .int .i64 8, .int .i64 k, .int .i64 i, .string ⟨t.toArray⟩]] w fun e w' => e = .returned (.bool (Preds.right n 8 k i t)) ∧ Below w.heap.size w w' := by
  obtain ⟨hB, hb0⟩ := box5 w 40 (.string ⟨n.toArray⟩) (.int .i64 8) (.int .i64 k) (.int .i64 i) (.string ⟨t.toArray⟩)
  have d1 : decide ((n.length : Int) < 1) = false := by simp; omega
  have d2 : decide ((16 : Int) < (n.length : Int)) = false := by simp; omega
  have HF : Hid (Preds.right n 8 k i t = decide (k = 0 ∧ i = 0 ∧ t = [])) := by
    show _ = _
    unfold Preds.right Preds.asks
    simp [h1, h2]
  clear h1 h2
  have hG := eqGuardV
  go_enter Try.func26, Try.ntmps26
  by_cases a0 : k = 0
  · subst a0
    by_cases a1 : i = 0
    · subst a1
      by_cases a2 : t = []
      · subst a2
        go_wp2_with fail
        go_ret
        exact ⟨ret_b (by rw [HF.out]; simp), hb0⟩
      · have e2 : (t == []) = false := by simpa using a2
        have HF2 : Hid (Preds.right n 8 0 0 t = false) := by show _ = _; rw [HF.out]; simp [a2]
        clear a2 HF
        go_wp2_with fail
        all_goals (go_ret; exact ⟨ret_b HF2.out.symm, hb0⟩)
    · have e1 : (i == 0) = false := by simpa using a1
      have HF2 : Hid (Preds.right n 8 0 i t = false) := by show _ = _; rw [HF.out]; simp [a1]
      clear a1 HF
      go_wp2_with fail
      all_goals (go_ret; exact ⟨ret_b HF2.out.symm, hb0⟩)
  · have e0 : (k == 0) = false := by simpa using a0
    have HF2 : Hid (Preds.right n 8 k i t = false) := by show _ = _; rw [HF.out]; simp [a0]
    clear a0 HF
    go_wp2_with fail
    all_goals (go_ret; exact ⟨ret_b HF2.out.symm, hb0⟩)
set_option maxRecDepth 100000 in
set_option maxHeartbeats 1600000 in
theorem pright_ord (n : List UInt8) (o k i : Int) (t : List UInt8) (w : World) (hn : n.length ≤ 9223372036854775807) (hl : t.length ≤ 9223372036854775807) (h1 : 1 ≤ n.length) (h2 : n.length ≤ 16) (ho : 1 ≤ o) (ho2 : o ≤ 6) : Calls Try.prog 26 #[.agg #[.string ⟨n.toArray⟩, .int .i64 o, .int .i64 k, .int .i64 i, .string ⟨t.toArray⟩]] w fun e w' => e = .returned (.bool (Preds.right n o k i t)) ∧ Below w.heap.size w w' := by
  have d1 : decide ((n.length : Int) < 1) = false := by simp; omega
  have d2 : decide ((16 : Int) < (n.length : Int)) = false := by simp; omega
  have HF : Hid (Preds.right n o k i t = Preds.side k i t) := by
    show _ = _
    unfold Preds.right Preds.asks
    rw [if_neg (by omega), if_neg (by omega)]
    simp [h1, h2, ho, ho2]
  clear h1 h2
  have h6 : o = 1 ∨ o = 2 ∨ o = 3 ∨ o = 4 ∨ o = 5 ∨ o = 6 := by omega
  clear ho ho2
  rcases h6 with rfl | rfl | rfl | rfl | rfl | rfl
  · obtain ⟨hB, hb0⟩ := box5 w 40 (.string ⟨n.toArray⟩) (.int .i64 1) (.int .i64 k) (.int .i64 i) (.string ⟨t.toArray⟩)
    go_enter Try.func26, Try.ntmps26
    go_wp2_with fail
    generalize w.alloc (.cells #[.string ⟨n.toArray⟩, .int .i64 1, .int .i64 k, .int .i64 i, .string ⟨t.toArray⟩] 40) = w0 at *
    refine (side_at k i t w0 hl).mono ?_
    rintro e w1 ⟨rfl, hb1⟩
    have hbw := below_next hb0 (Nat.le_refl _) hb1
    clear hB hb0 hb1
    go_wp2_with fail
    go_ret
    exact ⟨ret_b HF.out.symm, hbw⟩
  · obtain ⟨hB, hb0⟩ := box5 w 40 (.string ⟨n.toArray⟩) (.int .i64 2) (.int .i64 k) (.int .i64 i) (.string ⟨t.toArray⟩)
    go_enter Try.func26, Try.ntmps26
    go_wp2_with fail
    generalize w.alloc (.cells #[.string ⟨n.toArray⟩, .int .i64 2, .int .i64 k, .int .i64 i, .string ⟨t.toArray⟩] 40) = w0 at *
    refine (side_at k i t w0 hl).mono ?_
    rintro e w1 ⟨rfl, hb1⟩
    have hbw := below_next hb0 (Nat.le_refl _) hb1
    clear hB hb0 hb1
    go_wp2_with fail
    go_ret
    exact ⟨ret_b HF.out.symm, hbw⟩
  · obtain ⟨hB, hb0⟩ := box5 w 40 (.string ⟨n.toArray⟩) (.int .i64 3) (.int .i64 k) (.int .i64 i) (.string ⟨t.toArray⟩)
    go_enter Try.func26, Try.ntmps26
    go_wp2_with fail
    generalize w.alloc (.cells #[.string ⟨n.toArray⟩, .int .i64 3, .int .i64 k, .int .i64 i, .string ⟨t.toArray⟩] 40) = w0 at *
    refine (side_at k i t w0 hl).mono ?_
    rintro e w1 ⟨rfl, hb1⟩
    have hbw := below_next hb0 (Nat.le_refl _) hb1
    clear hB hb0 hb1
    go_wp2_with fail
    go_ret
    exact ⟨ret_b HF.out.symm, hbw⟩
  · obtain ⟨hB, hb0⟩ := box5 w 40 (.string ⟨n.toArray⟩) (.int .i64 4) (.int .i64 k) (.int .i64 i) (.string ⟨t.toArray⟩)
    go_enter Try.func26, Try.ntmps26
    go_wp2_with fail
    generalize w.alloc (.cells #[.string ⟨n.toArray⟩, .int .i64 4, .int .i64 k, .int .i64 i, .string ⟨t.toArray⟩] 40) = w0 at *
    refine (side_at k i t w0 hl).mono ?_
    rintro e w1 ⟨rfl, hb1⟩
    have hbw := below_next hb0 (Nat.le_refl _) hb1
    clear hB hb0 hb1
    go_wp2_with fail
    go_ret
    exact ⟨ret_b HF.out.symm, hbw⟩
  · obtain ⟨hB, hb0⟩ := box5 w 40 (.string ⟨n.toArray⟩) (.int .i64 5) (.int .i64 k) (.int .i64 i) (.string ⟨t.toArray⟩)
    go_enter Try.func26, Try.ntmps26
    go_wp2_with fail
    generalize w.alloc (.cells #[.string ⟨n.toArray⟩, .int .i64 5, .int .i64 k, .int .i64 i, .string ⟨t.toArray⟩] 40) = w0 at *
    refine (side_at k i t w0 hl).mono ?_
    rintro e w1 ⟨rfl, hb1⟩
    have hbw := below_next hb0 (Nat.le_refl _) hb1
    clear hB hb0 hb1
    go_wp2_with fail
    go_ret
    exact ⟨ret_b HF.out.symm, hbw⟩
  · obtain ⟨hB, hb0⟩ := box5 w 40 (.string ⟨n.toArray⟩) (.int .i64 6) (.int .i64 k) (.int .i64 i) (.string ⟨t.toArray⟩)
    go_enter Try.func26, Try.ntmps26
    go_wp2_with fail
    generalize w.alloc (.cells #[.string ⟨n.toArray⟩, .int .i64 6, .int .i64 k, .int .i64 i, .string ⟨t.toArray⟩] 40) = w0 at *
    refine (side_at k i t w0 hl).mono ?_
    rintro e w1 ⟨rfl, hb1⟩
    have hbw := below_next hb0 (Nat.le_refl _) hb1
    clear hB hb0 hb1
    go_wp2_with fail
    go_ret
    exact ⟨ret_b HF.out.symm, hbw⟩
set_option maxRecDepth 100000 in
set_option maxHeartbeats 1600000 in
theorem pright_pre (n : List UInt8) (k i : Int) (t : List UInt8) (w : World) (hn : n.length ≤ 9223372036854775807) (hl : t.length ≤ 9223372036854775807) (h1 : 1 ≤ n.length) (h2 : n.length ≤ 16) : Calls Try.prog 26 #[.agg #[.string ⟨n.toArray⟩, .int .i64 7, .int .i64 k, .int .i64 i, .string ⟨t.toArray⟩]] w fun e w' => e = .returned (.bool (Preds.right n 7 k i t)) ∧ Below w.heap.size w w' := by
  obtain ⟨hB, hb0⟩ := box5 w 40 (.string ⟨n.toArray⟩) (.int .i64 7) (.int .i64 k) (.int .i64 i) (.string ⟨t.toArray⟩)
  have d1 : decide ((n.length : Int) < 1) = false := by simp; omega
  have d2 : decide ((16 : Int) < (n.length : Int)) = false := by simp; omega
  have HF : Hid (Preds.right n 7 k i t = (Preds.side k i t && decide (k = 2))) := by
    show _ = _
    unfold Preds.right Preds.asks
    simp [h1, h2]
  clear h1 h2
  go_enter Try.func26, Try.ntmps26
  go_wp2_with fail
  generalize w.alloc (.cells #[.string ⟨n.toArray⟩, .int .i64 7, .int .i64 k, .int .i64 i, .string ⟨t.toArray⟩] 40) = w0 at *
  cases hs : Preds.side k i t with
  | false =>
    have HF2 : Hid (Preds.right n 7 k i t = false) := by show _ = _; rw [HF.out, hs]; rfl
    refine (side_is k i t false hs w0 hl).mono ?_
    rintro e w1 ⟨rfl, hb1⟩
    have hbw := below_next hb0 (Nat.le_refl _) hb1
    clear hB hb0 hb1 hs HF
    go_wp2_with fail
    go_ret
    exact ⟨ret_b HF2.out.symm, hbw⟩
  | true =>
    have HF2 : Hid (Preds.right n 7 k i t = (k == 2)) := by show _ = _; rw [HF.out, hs]; simp; by_cases h : k = 2 <;> simp [h]
    refine (side_is k i t true hs w0 hl).mono ?_
    rintro e w1 ⟨rfl, hb1⟩
    obtain ⟨c0, c1, c2, c3, c4, _, _, _, _, _⟩ := blk5 (hB.below hb1 hB.lt)
    have hbw := below_next hb0 (Nat.le_refl _) hb1
    clear hB hb0 hb1 hs HF
    go_wp2_with fail
    go_ret
    exact ⟨ret_b HF2.out.symm, hbw⟩
set_option maxRecDepth 100000 in
set_option maxHeartbeats 1600000 in
theorem pright_none (n : List UInt8) (o k i : Int) (t : List UInt8) (w : World) (hn : n.length ≤ 9223372036854775807) (_hl : t.length ≤ 9223372036854775807) (h1 : 1 ≤ n.length) (h2 : n.length ≤ 16) (ho : o < 1 ∨ 8 < o) : Calls Try.prog 26 #[.agg #[.string ⟨n.toArray⟩, .int .i64 o, .int .i64 k, .int .i64 i, .string ⟨t.toArray⟩]] w fun e w' => e = .returned (.bool (Preds.right n o k i t)) ∧ Below w.heap.size w w' := by
  obtain ⟨hB, hb0⟩ := box5 w 40 (.string ⟨n.toArray⟩) (.int .i64 o) (.int .i64 k) (.int .i64 i) (.string ⟨t.toArray⟩)
  have d1 : decide ((n.length : Int) < 1) = false := by simp; omega
  have d2 : decide ((16 : Int) < (n.length : Int)) = false := by simp; omega
  have HF : Hid (Preds.right n o k i t = false) := by
    show _ = _
    unfold Preds.right Preds.asks
    rw [if_neg (by omega), if_neg (by omega)]
    rcases ho with ho | ho
    · rw [decide_eq_false (by omega : ¬ 1 ≤ o)]; simp
    · rw [decide_eq_false (by omega : ¬ o ≤ 6)]; simp
  have e1 : (o == 1) = false := by simp; omega
  have e2 : (o == 2) = false := by simp; omega
  have e3 : (o == 3) = false := by simp; omega
  have e4 : (o == 4) = false := by simp; omega
  have e5 : (o == 5) = false := by simp; omega
  have e6 : (o == 6) = false := by simp; omega
  have e7 : (o == 7) = false := by simp; omega
  have e8 : (o == 8) = false := by simp; omega
  clear h1 h2 ho
  go_enter Try.func26, Try.ntmps26
  go_wp2_with fail
  go_ret
  exact ⟨ret_b HF.out.symm, hb0⟩
theorem pright_at (n : List UInt8) (o k i : Int) (t : List UInt8) (w : World) (hn : n.length ≤ 9223372036854775807) (hl : t.length ≤ 9223372036854775807) : Calls Try.prog 26 #[.agg #[.string ⟨n.toArray⟩, .int .i64 o, .int .i64 k, .int .i64 i, .string ⟨t.toArray⟩]] w fun e w' => e = .returned (.bool (Preds.right n o k i t)) ∧ Below w.heap.size w w' := by
  by_cases h : n.length < 1 ∨ 16 < n.length
  · exact pright_name n o k i t w hn hl h
  · by_cases h8 : o = 8
    · subst h8; exact pright_exists n k i t w hn hl (by omega) (by omega)
    · by_cases h7 : o = 7
      · subst h7; exact pright_pre n k i t w hn hl (by omega) (by omega)
      · by_cases h6 : 1 ≤ o ∧ o ≤ 6
        · exact pright_ord n o k i t w hn hl (by omega) (by omega) h6.1 h6.2
        · exact pright_none n o k i t w hn hl (by omega) (by omega) (by omega)
theorem pright_is (n : List UInt8) (o k i : Int) (t : List UInt8) (w : World) (hn : n.length ≤ 9223372036854775807) (hl : t.length ≤ 9223372036854775807) (b : Bool) (hb : Preds.right n o k i t = b) : Calls Try.prog 26 #[.agg #[.string ⟨n.toArray⟩, .int .i64 o, .int .i64 k, .int .i64 i, .string ⟨t.toArray⟩]] w fun e w' => e = .returned (.bool b) ∧ Below w.heap.size w w' := by
  subst hb; exact pright_at n o k i t w hn hl
set_option maxRecDepth 100000 in
set_option maxHeartbeats 1600000 in
theorem rpright_name (n : List UInt8) (o k i : Int) (t : List UInt8) (w : World) (hn : n.length ≤ 9223372036854775807) (_hl : t.length ≤ 9223372036854775807) (h : n.length < 1 ∨ 16 < n.length) : Calls Try.prog 55 #[.agg #[.string ⟨n.toArray⟩, .int .i64 o, .int .i64 k, .int .i64 i, .string ⟨t.toArray⟩]] w fun e w' => e = .returned (.bool (Preds.right n o k i t)) ∧ Below w.heap.size w w' := by
  obtain ⟨hB, hb0⟩ := box5 w 40 (.string ⟨n.toArray⟩) (.int .i64 o) (.int .i64 k) (.int .i64 i) (.string ⟨t.toArray⟩)
  have HF : Hid (Preds.right n o k i t = false) := by
    show _ = _
    unfold Preds.right
    rcases h with h | h
    · rw [decide_eq_false (by omega : ¬ 1 ≤ n.length)]; rfl
    · rw [decide_eq_false (by omega : ¬ n.length ≤ 16)]; simp
  by_cases h1 : n.length < 1
  · have d1 : decide ((n.length : Int) < 1) = true := by simp; omega
    clear h h1
    go_enter Try.func55, Try.ntmps55
    go_wp2_with fail
    go_ret
    exact ⟨ret_b HF.out.symm, hb0⟩
  · have d1 : decide ((n.length : Int) < 1) = false := by simp; omega
    have d2 : decide ((16 : Int) < (n.length : Int)) = true := by simp; omega
    clear h h1
    go_enter Try.func55, Try.ntmps55
    go_wp2_with fail
    go_ret
    exact ⟨ret_b HF.out.symm, hb0⟩
set_option maxRecDepth 100000 in
set_option maxHeartbeats 1600000 in
theorem rpright_exists (n : List UInt8) (k i : Int) (t : List UInt8) (w : World) (hn : n.length ≤ 9223372036854775807) (_hl : t.length ≤ 9223372036854775807) (h1 : 1 ≤ n.length) (h2 : n.length ≤ 16) : Calls Try.prog 55 #[.agg #[.string ⟨n.toArray⟩, .int .i64 8, .int .i64 k, .int .i64 i, .string ⟨t.toArray⟩]] w fun e w' => e = .returned (.bool (Preds.right n 8 k i t)) ∧ Below w.heap.size w w' := by
  obtain ⟨hB, hb0⟩ := box5 w 40 (.string ⟨n.toArray⟩) (.int .i64 8) (.int .i64 k) (.int .i64 i) (.string ⟨t.toArray⟩)
  have d1 : decide ((n.length : Int) < 1) = false := by simp; omega
  have d2 : decide ((16 : Int) < (n.length : Int)) = false := by simp; omega
  have HF : Hid (Preds.right n 8 k i t = decide (k = 0 ∧ i = 0 ∧ t = [])) := by
    show _ = _
    unfold Preds.right Preds.asks
    simp [h1, h2]
  clear h1 h2
  have hG := eqGuardV
  go_enter Try.func55, Try.ntmps55
  by_cases a0 : k = 0
  · subst a0
    by_cases a1 : i = 0
    · subst a1
      by_cases a2 : t = []
      · subst a2
        go_wp2_with fail
        go_ret
        exact ⟨ret_b (by rw [HF.out]; simp), hb0⟩
      · have e2 : (t == []) = false := by simpa using a2
        have HF2 : Hid (Preds.right n 8 0 0 t = false) := by show _ = _; rw [HF.out]; simp [a2]
        clear a2 HF
        go_wp2_with fail
        all_goals (go_ret; exact ⟨ret_b HF2.out.symm, hb0⟩)
    · have e1 : (i == 0) = false := by simpa using a1
      have HF2 : Hid (Preds.right n 8 0 i t = false) := by show _ = _; rw [HF.out]; simp [a1]
      clear a1 HF
      go_wp2_with fail
      all_goals (go_ret; exact ⟨ret_b HF2.out.symm, hb0⟩)
  · have e0 : (k == 0) = false := by simpa using a0
    have HF2 : Hid (Preds.right n 8 k i t = false) := by show _ = _; rw [HF.out]; simp [a0]
    clear a0 HF
    go_wp2_with fail
    all_goals (go_ret; exact ⟨ret_b HF2.out.symm, hb0⟩)
set_option maxRecDepth 100000 in
set_option maxHeartbeats 1600000 in
theorem rpright_else (n : List UInt8) (o k i : Int) (t : List UInt8) (w : World) (hn : n.length ≤ 9223372036854775807) (hl : t.length ≤ 9223372036854775807) (h1 : 1 ≤ n.length) (h2 : n.length ≤ 16) (ho : o ≠ 8) : Calls Try.prog 55 #[.agg #[.string ⟨n.toArray⟩, .int .i64 o, .int .i64 k, .int .i64 i, .string ⟨t.toArray⟩]] w fun e w' => e = .returned (.bool (Preds.right n o k i t)) ∧ Below w.heap.size w w' := by
  obtain ⟨hB, hb0⟩ := box5 w 40 (.string ⟨n.toArray⟩) (.int .i64 o) (.int .i64 k) (.int .i64 i) (.string ⟨t.toArray⟩)
  have d1 : decide ((n.length : Int) < 1) = false := by simp; omega
  have d2 : decide ((16 : Int) < (n.length : Int)) = false := by simp; omega
  have HF : Hid (Preds.right n o k i t = (Vals.right k i t && decide (t.length ≤ 32) && decide (1 ≤ o) && decide (o ≤ 7) && (decide (o ≠ 7) || decide (k = 2)))) := by
    show _ = _
    unfold Preds.right Preds.asks Preds.side
    rw [if_neg ho]
    by_cases h7 : o = 7
    · subst h7; simp [h1, h2]
    · have h76 : (o ≤ 7) ↔ (o ≤ 6) := by omega
      simp [h1, h2, h7, h76]
      cases Vals.right k i t <;> simp
      by_cases b1 : 1 ≤ o <;> by_cases b2 : o ≤ 6 <;> by_cases b3 : t.length ≤ 32 <;> simp [b1, b2, b3]
  have e8 : (o == 8) = false := by simpa using ho
  clear h1 h2
  go_enter Try.func55, Try.ntmps55
  go_wp2_with fail
  generalize w.alloc (.cells #[.string ⟨n.toArray⟩, .int .i64 o, .int .i64 k, .int .i64 i, .string ⟨t.toArray⟩] 40) = w0 at *
  refine (refRight_at k i t w0 hl).mono ?_
  rintro e w1 ⟨rfl, hb1⟩
  obtain ⟨c0, c1, c2, c3, c4, _, _, _, _, _⟩ := blk5 (hB.below hb1 hB.lt)
  have hbw := below_next hb0 (Nat.le_refl _) hb1
  clear hB hb0 hb1
  cases hr : Vals.right k i t with
  | false =>
    have HF2 : Hid (Preds.right n o k i t = false) := by show _ = _; rw [HF.out, hr]; rfl
    clear hr HF ho
    go_wp2_with fail
    go_ret
    exact ⟨ret_b HF2.out.symm, hbw⟩
  | true =>
    by_cases b1 : t.length ≤ 32
    · have q1 : decide ((t.length : Int) ≤ 32) = true := by simp; omega
      by_cases b2 : 1 ≤ o
      · have q2 : decide (1 ≤ o) = true := by simpa using b2
        by_cases b3 : o ≤ 7
        · have q3 : decide (o ≤ 7) = true := by simpa using b3
          by_cases b4 : o = 7
          · subst b4
            have HF2 : Hid (Preds.right n 7 k i t = (k == 2)) := by show _ = _; rw [HF.out, hr]; simp [b1]; by_cases h : k = 2 <;> simp [h]
            clear hr HF ho b1 b2 b3 q2 q3
            go_wp2_with fail
            go_ret
            exact ⟨ret_b HF2.out.symm, hbw⟩
          · have q4 : (o != 7) = true := by simpa using b4
            have HF2 : Hid (Preds.right n o k i t = true) := by show _ = _; rw [HF.out, hr]; simp [b1, b2, b3, b4]
            clear hr HF ho b1 b2 b3 b4
            go_wp2_with fail
            go_ret
            exact ⟨ret_b HF2.out.symm, hbw⟩
        · have q3 : decide (o ≤ 7) = false := by simpa using b3
          have HF2 : Hid (Preds.right n o k i t = false) := by show _ = _; rw [HF.out, hr]; simp [b3]
          clear hr HF ho b1 b2 b3
          go_wp2_with fail
          go_ret
          exact ⟨ret_b HF2.out.symm, hbw⟩
      · have q2 : decide (1 ≤ o) = false := by simpa using b2
        have HF2 : Hid (Preds.right n o k i t = false) := by show _ = _; rw [HF.out, hr]; simp [b2]
        clear hr HF ho b1 b2
        go_wp2_with fail
        go_ret
        exact ⟨ret_b HF2.out.symm, hbw⟩
    · have q1 : decide ((t.length : Int) ≤ 32) = false := by simp; omega
      have HF2 : Hid (Preds.right n o k i t = false) := by show _ = _; rw [HF.out, hr]; simp [b1]
      clear hr HF ho b1
      go_wp2_with fail
      go_ret
      exact ⟨ret_b HF2.out.symm, hbw⟩
theorem rpright_at (n : List UInt8) (o k i : Int) (t : List UInt8) (w : World) (hn : n.length ≤ 9223372036854775807) (hl : t.length ≤ 9223372036854775807) : Calls Try.prog 55 #[.agg #[.string ⟨n.toArray⟩, .int .i64 o, .int .i64 k, .int .i64 i, .string ⟨t.toArray⟩]] w fun e w' => e = .returned (.bool (Preds.right n o k i t)) ∧ Below w.heap.size w w' := by
  by_cases h : n.length < 1 ∨ 16 < n.length
  · exact rpright_name n o k i t w hn hl h
  · by_cases h8 : o = 8
    · subst h8; exact rpright_exists n k i t w hn hl (by omega) (by omega)
    · exact rpright_else n o k i t w hn hl (by omega) (by omega) h8
theorem rpright_is (n : List UInt8) (o k i : Int) (t : List UInt8) (w : World) (hn : n.length ≤ 9223372036854775807) (hl : t.length ≤ 9223372036854775807) (b : Bool) (hb : Preds.right n o k i t = b) : Calls Try.prog 55 #[.agg #[.string ⟨n.toArray⟩, .int .i64 o, .int .i64 k, .int .i64 i, .string ⟨t.toArray⟩]] w fun e w' => e = .returned (.bool b) ∧ Below w.heap.size w w' := by
  subst hb; exact rpright_at n o k i t w hn hl
set_option maxRecDepth 100000 in
theorem allows_at (o c : Int) (w : World) :
    Calls Try.prog 48 #[.int .i64 o, .int .i64 c] w fun e w' => e = .returned (.bool (Preds.allows o c)) ∧ w = w' := by
  go_enter Try.func48, Try.ntmps48
  go_wp2
  all_goals (go_ret; refine ⟨ret_b ?_, rfl⟩)
  all_goals (simp_all [Preds.allows])
theorem begins_no (a p : List UInt8) (h : a.length < p.length) : Preds.begins a p = false := by
  unfold Preds.begins
  rw [decide_eq_false (by omega)]; rfl
theorem extract_take (a : List UInt8) (m : Nat) : ((⟨a.toArray⟩ : ByteArray).extract 0 m).toList = a.take m := by
  rw [ByteArray.toList_eq, ByteArray.data_extract, Array.toList_extract]
  simp
theorem begins_yes (a p : List UInt8) (h : p.length ≤ a.length) : Preds.begins a p = (((⟨a.toArray⟩ : ByteArray).extract 0 p.length).toList == p) := by
  rw [extract_take]
  unfold Preds.begins
  rw [decide_eq_true h, Bool.true_and]
  by_cases h : a.take p.length = p <;> simp [h]
set_option maxRecDepth 100000 in
theorem hasPre_at (a p : List UInt8) (w : World) (_ha : a.length ≤ 9223372036854775807) (_hp : p.length ≤ 9223372036854775807) :
    Calls Try.prog 69 #[.string ⟨a.toArray⟩, .string ⟨p.toArray⟩] w fun e w' => e = .returned (.bool (Preds.begins a p)) ∧ w = w' := by
  by_cases h : p.length ≤ a.length
  · have d1 : decide (p.length ≤ a.length) = true := by simpa using h
    have HF := Lib.hid (begins_yes a p h)
    go_enter Try.func69, Try.ntmps69
    go_wp2_with fail
    go_ret
    exact ⟨ret_b HF.out.symm, rfl⟩
  · have d1 : decide (p.length ≤ a.length) = false := by simpa using h
    have HF := Lib.hid (begins_no a p (by omega))
    clear h
    go_enter Try.func69, Try.ntmps69
    go_wp2_with fail
    go_ret
    exact ⟨ret_b HF.out.symm, rfl⟩
set_option maxRecDepth 100000 in
theorem hasPrefix_at (a p : List UInt8) (w : World) (ha : a.length ≤ 9223372036854775807) (hp : p.length ≤ 9223372036854775807) :
    Calls Try.prog 47 #[.string ⟨a.toArray⟩, .string ⟨p.toArray⟩] w fun e w' => e = .returned (.bool (Preds.begins a p)) ∧ w = w' := by
  go_enter Try.func47, Try.ntmps47
  go_wp2_with fail
  refine (hasPre_at a p w ha hp).mono ?_
  rintro e w1 ⟨rfl, rfl⟩
  go_wp2_with fail
  go_ret
  exact ⟨rfl, rfl⟩
end Go.Proofs.Ytcgmbgfbhdimeaa
