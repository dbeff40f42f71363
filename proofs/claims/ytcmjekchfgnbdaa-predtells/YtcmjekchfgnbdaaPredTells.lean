/-
  Which predicates are right, of what they hold, which events meet them, and their bytes, are the document's own answer: for every predicate, value, event and all bytes the call of the law answers true, and all arguments read behind it as they read before. No condition.
-/
import Derived.Test.YtcmjekchfgnbdaaPSml
import Derived.Test.YtcmjekchfgnbdaaPRefPut
import Derived.Test.YtcmjekchfgnbdaaPArgs
namespace Go.Proofs.Ytcmjekchfgnbdaa
open Go.RowKit Go.ChangeShapes Go.WideShapes Go.ChangeAt
theorem few_is (A : Option Addr) (es : List Ev.At) (n c : Nat) (hn : es.length = n) (hm : n ≤ maxLen) (hb : ∀ a ∈ es, a.n.length ≤ maxLen ∧ a.t.length ≤ maxLen) (w : World) (hr : RdA w A es) (b : Bool) (hf : decide (Ev.Few es) = b) :
    Calls Try.prog 9 #[.slice A n c] w fun e w' => e = .returned (.bool b) ∧ w = w' := by
  subst hf
  exact (few_at A es n c hn hm hb w hr).mono fun _ _ ⟨h, k⟩ => ⟨h, k.symm⟩
set_option maxRecDepth 100000 in
set_option maxHeartbeats 3200000 in
theorem tells_many (w : World) (nm : List UInt8) (o k i : Int) (t : List UInt8) (k' i' : Int) (t' : List UInt8) (E : Option Addr) (es : List Ev.At) (m ce : Nat) (A : Option Addr) (len cap : Nat) (hem : es.length = m) (hml : m ≤ maxLen) (heb : ∀ a ∈ es, a.n.length ≤ maxLen ∧ a.t.length ≤ maxLen) (rde : RdA w E es) (hf : decide (Ev.Few es) = false) :
    Calls Try.prog 3 #[.agg #[.string ⟨nm.toArray⟩, .int .i64 o, .int .i64 k, .int .i64 i, .string ⟨t.toArray⟩], .agg #[.int .i64 k', .int .i64 i', .string ⟨t'.toArray⟩], .slice E m ce, .slice A len cap] w fun e w' => e = .returned (.bool true) ∧ Below w.heap.size w w' := by
  have HF := Lib.hid hf
  clear hf
  have HEM := Lib.hid hem
  have HEB := Lib.hid heb
  clear hem heb
  go_enter Try.func3, Try.ntmps3
  go_wp2_with fail
  obtain ⟨hP, hV, hb0⟩ := box53 w 25 23 (.string ⟨nm.toArray⟩) (.int .i64 o) (.int .i64 k) (.int .i64 i) (.string ⟨t.toArray⟩) (.int .i64 k') (.int .i64 i') (.string ⟨t'.toArray⟩)
  generalize (w.alloc (.cells #[.string ⟨nm.toArray⟩, .int .i64 o, .int .i64 k, .int .i64 i, .string ⟨t.toArray⟩] 25)).alloc (.cells #[.int .i64 k', .int .i64 i', .string ⟨t'.toArray⟩] 23) = w0 at *
  refine (small_any w0).mono ?_
  rintro e w1 ⟨rfl, hb1⟩
  replace hP := hP.below hb1 hP.lt
  replace hV := hV.below hb1 hV.lt
  have hbw := below_next hb0 (Nat.le_refl _) hb1
  clear hb0 hb1
  go_wp2_with fail
  refine (few_is E es m ce HEM.out hml HEB.out w1 (rde.below hbw) false HF.out).mono ?_
  rintro e w2 ⟨rfl, rfl⟩
  obtain ⟨c0, c1, c2, c3, c4, _, _, _, _, _⟩ := blk5 hP
  obtain ⟨d0, d1, d2, _, _, _⟩ := blk3 hV
  go_wp2_with fail
  go_ret
  exact ⟨rfl, hbw⟩
set_option maxRecDepth 100000 in
set_option maxHeartbeats 3200000 in
theorem tells_out (w : World) (nm : List UInt8) (o k i : Int) (t : List UInt8) (k' i' : Int) (t' : List UInt8) (E : Option Addr) (es : List Ev.At) (m ce : Nat) (A : Option Addr) (len cap : Nat) (hem : es.length = m) (hml : m ≤ maxLen) (heb : ∀ a ∈ es, a.n.length ≤ maxLen ∧ a.t.length ≤ maxLen) (rde : RdA w E es) (hf : decide (Ev.Few es) = true) (h0 : nm.length ≤ 9223372036854775807) (h1 : t.length ≤ 9223372036854775807) (h2 : t'.length ≤ 9223372036854775807) (hm : len ≤ 140737488355328) (hl : 300 < nm.length ∨ 300 < t.length ∨ 300 < t'.length ∨ 300 < len) :
    Calls Try.prog 3 #[.agg #[.string ⟨nm.toArray⟩, .int .i64 o, .int .i64 k, .int .i64 i, .string ⟨t.toArray⟩], .agg #[.int .i64 k', .int .i64 i', .string ⟨t'.toArray⟩], .slice E m ce, .slice A len cap] w fun e w' => e = .returned (.bool true) ∧ Below w.heap.size w w' := by
  have HF := Lib.hid hf
  clear hf
  have HEM := Lib.hid hem
  have HEB := Lib.hid heb
  clear hem heb
  go_enter Try.func3, Try.ntmps3
  go_wp2_with fail
  obtain ⟨hP, hV, hb0⟩ := box53 w 25 23 (.string ⟨nm.toArray⟩) (.int .i64 o) (.int .i64 k) (.int .i64 i) (.string ⟨t.toArray⟩) (.int .i64 k') (.int .i64 i') (.string ⟨t'.toArray⟩)
  generalize (w.alloc (.cells #[.string ⟨nm.toArray⟩, .int .i64 o, .int .i64 k, .int .i64 i, .string ⟨t.toArray⟩] 25)).alloc (.cells #[.int .i64 k', .int .i64 i', .string ⟨t'.toArray⟩] 23) = w0 at *
  refine (small_any w0).mono ?_
  rintro e w1 ⟨rfl, hb1⟩
  replace hP := hP.below hb1 hP.lt
  replace hV := hV.below hb1 hV.lt
  have hbw := below_next hb0 (Nat.le_refl _) hb1
  clear hb0 hb1
  go_wp2_with fail
  refine (few_is E es m ce HEM.out hml HEB.out w1 (rde.below hbw) true HF.out).mono ?_
  rintro e w2 ⟨rfl, rfl⟩
  obtain ⟨c0, c1, c2, c3, c4, _, _, _, _, _⟩ := blk5 hP
  obtain ⟨d0, d1, d2, _, _, _⟩ := blk3 hV
  by_cases a0 : 300 < nm.length
  · have q0 : decide ((300 : Int) < (nm.length : Int)) = true := by simp; omega
    clear hl a0
    go_wp2_with fail
    go_ret
    exact ⟨rfl, hbw⟩
  · have q0 : decide ((300 : Int) < (nm.length : Int)) = false := by simp; omega
    by_cases a1 : 300 < t.length
    · have q1 : decide ((300 : Int) < (t.length : Int)) = true := by simp; omega
      clear hl a0 a1
      go_wp2_with fail
      go_ret
      exact ⟨rfl, hbw⟩
    · have q1 : decide ((300 : Int) < (t.length : Int)) = false := by simp; omega
      by_cases a2 : 300 < t'.length
      · have q2 : decide ((300 : Int) < (t'.length : Int)) = true := by simp; omega
        clear hl a0 a1 a2
        go_wp2_with fail
        go_ret
        exact ⟨rfl, hbw⟩
      · have q2 : decide ((300 : Int) < (t'.length : Int)) = false := by simp; omega
        have q3 : decide ((300 : Int) < (len : Int)) = true := by simp; omega
        clear hl a0 a1 a2
        go_wp2_with fail
        go_ret
        exact ⟨rfl, hbw⟩
set_option maxRecDepth 100000 in
set_option maxHeartbeats 3200000 in
theorem tells_in (w : World) (nm : List UInt8) (o k i : Int) (t : List UInt8) (k' i' : Int) (t' : List UInt8) (E : Option Addr) (es : List Ev.At) (m ce : Nat) (A : Option Addr) (bs : List UInt8) (len cap : Nat) (hem : es.length = m) (hml : m ≤ maxLen) (heb : ∀ a ∈ es, a.n.length ≤ maxLen ∧ a.t.length ≤ maxLen) (rde : RdA w E es) (hf : decide (Ev.Few es) = true) (h0 : nm.length ≤ 300) (h1 : t.length ≤ 300) (h2 : t'.length ≤ 300) (hm : len ≤ 300) (hn : bs.length = len) (rd : Rd w A bs) (hi1 : -9223372036854775808 ≤ i) (hi2 : i ≤ 9223372036854775807)
    (r z y : Bool) (x : List UInt8) (L : Nat) (hr : Preds.right nm o k i t = r) (hz : Preds.holds nm o k i t k' i' t' = z) (hy : meetsV es nm o k i t = y) (hx : bs ++ Preds.lay nm o k i t = x) (hL : len + (Preds.lay nm o k i t).length = L) (hL2 : L ≤ 600) :
    Calls Try.prog 3 #[.agg #[.string ⟨nm.toArray⟩, .int .i64 o, .int .i64 k, .int .i64 i, .string ⟨t.toArray⟩], .agg #[.int .i64 k', .int .i64 i', .string ⟨t'.toArray⟩], .slice E m ce, .slice A len cap] w fun e w' => e = .returned (.bool true) ∧ Below w.heap.size w w' := by
  have q0 : decide ((300 : Int) < (nm.length : Int)) = false := by simp; omega
  have q1 : decide ((300 : Int) < (t.length : Int)) = false := by simp; omega
  have q2 : decide ((300 : Int) < (t'.length : Int)) = false := by simp; omega
  have q3 : decide ((300 : Int) < (len : Int)) = false := by simp; omega
  have HXL : Hid (x.length = L) := by show _ = _; rw [← hx, List.length_append, hn]; exact hL
  have HF := Lib.hid hf
  have HR := Lib.hid hr
  have HZ := Lib.hid hz
  have HY := Lib.hid hy
  have HX := Lib.hid hx
  have HL := Lib.hid hL
  have HN := Lib.hid hn
  clear hf hr hz hy hx hL hn
  have HEM := Lib.hid hem
  have HEB := Lib.hid heb
  clear hem heb
  go_enter Try.func3, Try.ntmps3
  go_wp2_with fail
  obtain ⟨hP, hV, hb0⟩ := box53 w 25 23 (.string ⟨nm.toArray⟩) (.int .i64 o) (.int .i64 k) (.int .i64 i) (.string ⟨t.toArray⟩) (.int .i64 k') (.int .i64 i') (.string ⟨t'.toArray⟩)
  generalize (w.alloc (.cells #[.string ⟨nm.toArray⟩, .int .i64 o, .int .i64 k, .int .i64 i, .string ⟨t.toArray⟩] 25)).alloc (.cells #[.int .i64 k', .int .i64 i', .string ⟨t'.toArray⟩] 23) = w0 at *
  refine (small_any w0).mono ?_
  rintro e w1 ⟨rfl, hb1⟩
  replace hP := hP.below hb1 hP.lt
  replace hV := hV.below hb1 hV.lt
  have hbw := below_next hb0 (Nat.le_refl _) hb1
  clear hb0 hb1
  go_wp2_with fail
  refine (few_is E es m ce HEM.out hml HEB.out w1 (rde.below hbw) true HF.out).mono ?_
  rintro e w2 ⟨rfl, rfl⟩
  obtain ⟨c0, c1, c2, c3, c4, _, _, _, _, _⟩ := blk5 hP
  obtain ⟨d0, d1, d2, _, _, _⟩ := blk3 hV
  go_wp2_with fail
  clear c0 c1 c2 c3 c4 d0 d1 d2 q0 q1 q2 q3
  have hra := rd.below hbw
  have hre := rde.below hbw
  have hkeep : Hid (∀ w', Below w1.heap.size w1 w' → Below w1.heap.size w1 w' ∧ w'.cell? ⟨w.heap.size, 0, none⟩ = some (.string ⟨nm.toArray⟩) ∧ w'.cell? ⟨w.heap.size, 1, none⟩ = some (.int .i64 o) ∧ w'.cell? ⟨w.heap.size, 2, none⟩ = some (.int .i64 k) ∧ w'.cell? ⟨w.heap.size, 3, none⟩ = some (.int .i64 i) ∧ w'.cell? ⟨w.heap.size, 4, none⟩ = some (.string ⟨t.toArray⟩) ∧ w'.cell? ⟨(w.heap.size + 1), 0, none⟩ = some (.int .i64 k') ∧ w'.cell? ⟨(w.heap.size + 1), 1, none⟩ = some (.int .i64 i') ∧ w'.cell? ⟨(w.heap.size + 1), 2, none⟩ = some (.string ⟨t'.toArray⟩)) := fun w' h => ⟨h, (hP.below h hP.lt).cell 0, (hP.below h hP.lt).cell 1, (hP.below h hP.lt).cell 2, (hP.below h hP.lt).cell 3, (hP.below h hP.lt).cell 4, (hV.below h hV.lt).cell 0, (hV.below h hV.lt).cell 1, (hV.below h hV.lt).cell 2⟩
  have hS0 := hkeep.out w1.drew (Below.refl _ _).drew
  refine wp_region_held_drew (S := fun w' => Below w1.heap.size w1 w' ∧ w'.cell? ⟨w.heap.size, 0, none⟩ = some (.string ⟨nm.toArray⟩) ∧ w'.cell? ⟨w.heap.size, 1, none⟩ = some (.int .i64 o) ∧ w'.cell? ⟨w.heap.size, 2, none⟩ = some (.int .i64 k) ∧ w'.cell? ⟨w.heap.size, 3, none⟩ = some (.int .i64 i) ∧ w'.cell? ⟨w.heap.size, 4, none⟩ = some (.string ⟨t.toArray⟩) ∧ w'.cell? ⟨(w.heap.size + 1), 0, none⟩ = some (.int .i64 k') ∧ w'.cell? ⟨(w.heap.size + 1), 1, none⟩ = some (.int .i64 i') ∧ w'.cell? ⟨(w.heap.size + 1), 2, none⟩ = some (.string ⟨t'.toArray⟩)) (by kernel_rfl) hS0 (fun _ => ?_)
  refine wpAnyH_yes (i := 0) (d := 41) (v := ?_) rfl rfl (by kernel_rfl) (by kernel_rfl) (by kernel_rfl) (fun _ _ _ h => h) (by rfl) ?_ hS0 ?_
  rotate_left
  · intro w' hSw; go_simp <;> with_reducible rfl
  simp only [Act.put, List.setIfInBounds_toArray, List.set_cons_zero, List.set_cons_succ]
  refine wpAnyH_yes (i := 1) (d := 42) (v := ?_) rfl rfl (by kernel_rfl) (by kernel_rfl) (by kernel_rfl) (fun _ _ _ h => h) (by rfl) ?_ hS0 ?_
  rotate_left
  · intro w' hSw; go_simp <;> with_reducible rfl
  simp only [Act.put, List.setIfInBounds_toArray, List.set_cons_zero, List.set_cons_succ]
  refine wpAnyH_yes (i := 2) (d := 43) (v := ?_) rfl rfl (by kernel_rfl) (by kernel_rfl) (by kernel_rfl) (fun _ _ _ h => h) (by rfl) ?_ hS0 ?_
  rotate_left
  · intro w' hSw; go_simp <;> with_reducible rfl
  simp only [Act.put, List.setIfInBounds_toArray, List.set_cons_zero, List.set_cons_succ]
  refine wpAnyH_yes (i := 4) (d := 45) (v := ?_) rfl rfl (by kernel_rfl) (by kernel_rfl) (by kernel_rfl) (fun _ _ _ h => h) (by rfl) ?_ hS0 ?_
  rotate_left
  · intro w' hSw; go_simp <;> with_reducible rfl
  simp only [Act.put, List.setIfInBounds_toArray, List.set_cons_zero, List.set_cons_succ]
  refine wpAnyH_one (i := 3) (by kernel_rfl) rfl (by rfl) (fun Kx hK1 => ?_)
  go_simp
  with_reducible refine (pright_is nm o k i t _ (by omega) (by omega) r HR.out).mono ?_
  rintro e w2 ⟨rfl, hb2⟩
  have hS1 := hkeep.out _ (below_next hS0.1 (Nat.le_refl _) hb2)
  go_wp2_with fail
  refine hK1.out _ _ hS1 ?_
  refine wpAnyH_one (i := 5) (by kernel_rfl) rfl (by rfl) (fun Kx hK2 => ?_)
  go_simp
  with_reducible refine (rpright_is nm o k i t _ (by omega) (by omega) r HR.out).mono ?_
  rintro e w3 ⟨rfl, hb3⟩
  have hS2 := hkeep.out _ (below_next hS1.1 (Nat.le_refl _) hb3)
  go_wp2_with fail
  refine hK2.out _ _ hS2 ?_
  refine wpAnyH_yes (i := 6) (d := 47) (v := ?_) rfl rfl (by kernel_rfl) (by kernel_rfl) (by kernel_rfl) (fun _ _ _ h => h) (by rfl) ?_ hS2 ?_
  rotate_left
  · intro w' hSw; go_simp <;> with_reducible rfl
  simp only [Act.put, List.setIfInBounds_toArray, List.set_cons_zero, List.set_cons_succ]
  refine wpAnyH_yes (i := 7) (d := 48) (v := ?_) rfl rfl (by kernel_rfl) (by kernel_rfl) (by kernel_rfl) (fun _ _ _ h => h) (by rfl) ?_ hS2 ?_
  rotate_left
  · intro w' hSw; go_simp <;> with_reducible rfl
  simp only [Act.put, List.setIfInBounds_toArray, List.set_cons_zero, List.set_cons_succ]
  refine wpAnyH_yes (i := 8) (d := 49) (v := ?_) rfl rfl (by kernel_rfl) (by kernel_rfl) (by kernel_rfl) (fun _ _ _ h => h) (by rfl) ?_ hS2 ?_
  rotate_left
  · intro w' hSw; go_simp <;> with_reducible rfl
  simp only [Act.put, List.setIfInBounds_toArray, List.set_cons_zero, List.set_cons_succ]
  refine wpAnyH_yes (i := 9) (d := 50) (v := ?_) rfl rfl (by kernel_rfl) (by kernel_rfl) (by kernel_rfl) (fun _ _ _ h => h) (by rfl) ?_ hS2 ?_
  rotate_left
  · intro w' hSw; go_simp <;> with_reducible rfl
  simp only [Act.put, List.setIfInBounds_toArray, List.set_cons_zero, List.set_cons_succ]
  refine wpAnyH_yes (i := 10) (d := 51) (v := ?_) rfl rfl (by kernel_rfl) (by kernel_rfl) (by kernel_rfl) (fun _ _ _ h => h) (by rfl) ?_ hS2 ?_
  rotate_left
  · intro w' hSw; go_simp <;> with_reducible rfl
  simp only [Act.put, List.setIfInBounds_toArray, List.set_cons_zero, List.set_cons_succ]
  refine wpAnyH_yes (i := 12) (d := 53) (v := ?_) rfl rfl (by kernel_rfl) (by kernel_rfl) (by kernel_rfl) (fun _ _ _ h => h) (by rfl) ?_ hS2 ?_
  rotate_left
  · intro w' hSw; go_simp <;> with_reducible rfl
  simp only [Act.put, List.setIfInBounds_toArray, List.set_cons_zero, List.set_cons_succ]
  refine wpAnyH_yes (i := 13) (d := 54) (v := ?_) rfl rfl (by kernel_rfl) (by kernel_rfl) (by kernel_rfl) (fun _ _ _ h => h) (by rfl) ?_ hS2 ?_
  rotate_left
  · intro w' hSw; go_simp <;> with_reducible rfl
  simp only [Act.put, List.setIfInBounds_toArray, List.set_cons_zero, List.set_cons_succ]
  refine wpAnyH_one (i := 11) (by kernel_rfl) rfl (by rfl) (fun Kx hK3 => ?_)
  go_simp
  with_reducible refine (holds_is nm o k i t k' i' t' _ (by omega) (by omega) (by omega) z HZ.out).mono ?_
  rintro e w4 ⟨rfl, hb4⟩
  have hS3 := hkeep.out _ (below_next hS2.1 (Nat.le_refl _) hb4)
  go_wp2_with fail
  refine hK3.out _ _ hS3 ?_
  refine wpAnyH_one (i := 14) (by kernel_rfl) rfl (by rfl) (fun Kx hK4 => ?_)
  go_simp
  with_reducible refine (rholds_is nm o k i t k' i' t' _ (by omega) (by omega) (by omega) z HZ.out).mono ?_
  rintro e w5 ⟨rfl, hb5⟩
  have hS4 := hkeep.out _ (below_next hS3.1 (Nat.le_refl _) hb5)
  go_wp2_with fail
  refine hK4.out _ _ hS4 ?_
  refine wpAnyH_yes (i := 15) (d := 56) (v := ?_) rfl rfl (by kernel_rfl) (by kernel_rfl) (by kernel_rfl) (fun _ _ _ h => h) (by rfl) ?_ hS4 ?_
  rotate_left
  · intro w' hSw; go_simp <;> with_reducible rfl
  simp only [Act.put, List.setIfInBounds_toArray, List.set_cons_zero, List.set_cons_succ]
  refine wpAnyH_yes (i := 16) (d := 57) (v := ?_) rfl rfl (by kernel_rfl) (by kernel_rfl) (by kernel_rfl) (fun _ _ _ h => h) (by rfl) ?_ hS4 ?_
  rotate_left
  · intro w' hSw; go_simp <;> with_reducible rfl
  simp only [Act.put, List.setIfInBounds_toArray, List.set_cons_zero, List.set_cons_succ]
  refine wpAnyH_yes (i := 17) (d := 58) (v := ?_) rfl rfl (by kernel_rfl) (by kernel_rfl) (by kernel_rfl) (fun _ _ _ h => h) (by rfl) ?_ hS4 ?_
  rotate_left
  · intro w' hSw; go_simp <;> with_reducible rfl
  simp only [Act.put, List.setIfInBounds_toArray, List.set_cons_zero, List.set_cons_succ]
  refine wpAnyH_yes (i := 18) (d := 59) (v := ?_) rfl rfl (by kernel_rfl) (by kernel_rfl) (by kernel_rfl) (fun _ _ _ h => h) (by rfl) ?_ hS4 ?_
  rotate_left
  · intro w' hSw; go_simp <;> with_reducible rfl
  simp only [Act.put, List.setIfInBounds_toArray, List.set_cons_zero, List.set_cons_succ]
  refine wpAnyH_yes (i := 19) (d := 60) (v := ?_) rfl rfl (by kernel_rfl) (by kernel_rfl) (by kernel_rfl) (fun _ _ _ h => h) (by rfl) ?_ hS4 ?_
  rotate_left
  · intro w' hSw; go_simp <;> with_reducible rfl
  simp only [Act.put, List.setIfInBounds_toArray, List.set_cons_zero, List.set_cons_succ]
  refine wpAnyH_yes (i := 21) (d := 62) (v := ?_) rfl rfl (by kernel_rfl) (by kernel_rfl) (by kernel_rfl) (fun _ _ _ h => h) (by rfl) ?_ hS4 ?_
  rotate_left
  · intro w' hSw; go_simp <;> with_reducible rfl
  simp only [Act.put, List.setIfInBounds_toArray, List.set_cons_zero, List.set_cons_succ]
  refine wpAnyH_yes (i := 22) (d := 63) (v := ?_) rfl rfl (by kernel_rfl) (by kernel_rfl) (by kernel_rfl) (fun _ _ _ h => h) (by rfl) ?_ hS4 ?_
  rotate_left
  · intro w' hSw; go_simp <;> with_reducible rfl
  simp only [Act.put, List.setIfInBounds_toArray, List.set_cons_zero, List.set_cons_succ]
  refine wpAnyH_one (i := 20) (by kernel_rfl) rfl (by rfl) (fun Kx hK5 => ?_)
  go_simp
  with_reducible refine (meets_is nm o k i t E es m ce _ HEM.out hml HEB.out (by omega) (by omega) (hre.below hS4.1) y HY.out).mono ?_
  rintro e w6 ⟨rfl, hb6⟩
  have hS5 := hkeep.out _ (below_next hS4.1 (Nat.le_refl _) hb6)
  go_wp2_with fail
  refine hK5.out _ _ hS5 ?_
  refine wpAnyH_one (i := 23) (by kernel_rfl) rfl (by rfl) (fun Kx hK6 => ?_)
  go_simp
  with_reducible refine (rmeets_is nm o k i t E es m ce _ HEM.out hml HEB.out (by omega) (by omega) (hre.below hS5.1) y HY.out).mono ?_
  rintro e w7 ⟨rfl, hb7⟩
  have hS6 := hkeep.out _ (below_next hS5.1 (Nat.le_refl _) hb7)
  go_wp2_with fail
  refine hK6.out _ _ hS6 ?_
  refine wpAnyH_yes (i := 24) (d := 65) (v := ?_) rfl rfl (by kernel_rfl) (by kernel_rfl) (by kernel_rfl) (fun _ _ _ h => h) (by rfl) ?_ hS6 ?_
  rotate_left
  · intro w' hSw; go_simp <;> with_reducible rfl
  simp only [Act.put, List.setIfInBounds_toArray, List.set_cons_zero, List.set_cons_succ]
  refine wpAnyH_yes (i := 25) (d := 66) (v := ?_) rfl rfl (by kernel_rfl) (by kernel_rfl) (by kernel_rfl) (fun _ _ _ h => h) (by rfl) ?_ hS6 ?_
  rotate_left
  · intro w' hSw; go_simp <;> with_reducible rfl
  simp only [Act.put, List.setIfInBounds_toArray, List.set_cons_zero, List.set_cons_succ]
  refine wpAnyH_yes (i := 26) (d := 67) (v := ?_) rfl rfl (by kernel_rfl) (by kernel_rfl) (by kernel_rfl) (fun _ _ _ h => h) (by rfl) ?_ hS6 ?_
  rotate_left
  · intro w' hSw; go_simp <;> with_reducible rfl
  simp only [Act.put, List.setIfInBounds_toArray, List.set_cons_zero, List.set_cons_succ]
  refine wpAnyH_yes (i := 27) (d := 68) (v := ?_) rfl rfl (by kernel_rfl) (by kernel_rfl) (by kernel_rfl) (fun _ _ _ h => h) (by rfl) ?_ hS6 ?_
  rotate_left
  · intro w' hSw; go_simp <;> with_reducible rfl
  simp only [Act.put, List.setIfInBounds_toArray, List.set_cons_zero, List.set_cons_succ]
  refine wpAnyH_yes (i := 28) (d := 69) (v := ?_) rfl rfl (by kernel_rfl) (by kernel_rfl) (by kernel_rfl) (fun _ _ _ h => h) (by rfl) ?_ hS6 ?_
  rotate_left
  · intro w' hSw; go_simp <;> with_reducible rfl
  simp only [Act.put, List.setIfInBounds_toArray, List.set_cons_zero, List.set_cons_succ]
  refine wpAnyH_yes (i := 31) (d := 72) (v := ?_) rfl rfl (by kernel_rfl) (by kernel_rfl) (by kernel_rfl) (fun _ _ _ h => h) (by rfl) ?_ hS6 ?_
  rotate_left
  · intro w' hSw; go_simp <;> with_reducible rfl
  simp only [Act.put, List.setIfInBounds_toArray, List.set_cons_zero, List.set_cons_succ]
  refine wpAnyH_yes (i := 32) (d := 73) (v := ?_) rfl rfl (by kernel_rfl) (by kernel_rfl) (by kernel_rfl) (fun _ _ _ h => h) (by rfl) ?_ hS6 ?_
  rotate_left
  · intro w' hSw; go_simp <;> with_reducible rfl
  simp only [Act.put, List.setIfInBounds_toArray, List.set_cons_zero, List.set_cons_succ]
  refine wpAnyH_one (i := 29) (by kernel_rfl) rfl (by rfl) (fun Kx hK7 => ?_)
  go_simp
  with_reducible refine (pput_at A bs len cap L nm o k i t HN.out HL.out (by omega) hi1 hi2 (by omega) (by omega) _ (hra.below hS6.1)).mono ?_
  rintro e w8 ⟨D1, e1, rfl, _, hb8, hr8⟩
  rw [HX.out] at hr8
  have hb8' := below_next hS6.1 (Nat.le_refl _) hb8
  have hS7 := hkeep.out w8 hb8'
  go_wp2_with fail
  refine hK7.out _ _ hS7 ?_
  have hkeep2 : Hid (∀ w', Below w8.heap.size w8 w' → Below w1.heap.size w1 w' ∧ w'.cell? ⟨w.heap.size, 0, none⟩ = some (.string ⟨nm.toArray⟩) ∧ w'.cell? ⟨w.heap.size, 1, none⟩ = some (.int .i64 o) ∧ w'.cell? ⟨w.heap.size, 2, none⟩ = some (.int .i64 k) ∧ w'.cell? ⟨w.heap.size, 3, none⟩ = some (.int .i64 i) ∧ w'.cell? ⟨w.heap.size, 4, none⟩ = some (.string ⟨t.toArray⟩) ∧ w'.cell? ⟨(w.heap.size + 1), 0, none⟩ = some (.int .i64 k') ∧ w'.cell? ⟨(w.heap.size + 1), 1, none⟩ = some (.int .i64 i') ∧ w'.cell? ⟨(w.heap.size + 1), 2, none⟩ = some (.string ⟨t'.toArray⟩) ∧ Sem.run Try.prog (convert 27 9 (.slice D1 L e1)) w' = .ok (.string ⟨(x).toArray⟩) w' ∧ Below w8.heap.size w8 w') := fun w' h => by
    obtain ⟨s0, s1, s2, s3, s4, s5, s6, s7, s8⟩ := hkeep.out w' (below_next hb8' (Nat.le_refl _) h)
    exact ⟨s0, s1, s2, s3, s4, s5, s6, s7, s8, str_below e1 hr8 HXL.out h, h⟩
  refine wpAnyH_more (S' := fun w' => Below w1.heap.size w1 w' ∧ w'.cell? ⟨w.heap.size, 0, none⟩ = some (.string ⟨nm.toArray⟩) ∧ w'.cell? ⟨w.heap.size, 1, none⟩ = some (.int .i64 o) ∧ w'.cell? ⟨w.heap.size, 2, none⟩ = some (.int .i64 k) ∧ w'.cell? ⟨w.heap.size, 3, none⟩ = some (.int .i64 i) ∧ w'.cell? ⟨w.heap.size, 4, none⟩ = some (.string ⟨t.toArray⟩) ∧ w'.cell? ⟨(w.heap.size + 1), 0, none⟩ = some (.int .i64 k') ∧ w'.cell? ⟨(w.heap.size + 1), 1, none⟩ = some (.int .i64 i') ∧ w'.cell? ⟨(w.heap.size + 1), 2, none⟩ = some (.string ⟨t'.toArray⟩) ∧ Sem.run Try.prog (convert 27 9 (.slice D1 L e1)) w' = .ok (.string ⟨(x).toArray⟩) w' ∧ Below w8.heap.size w8 w') (fun w' h => ⟨h.1, h.2.1, h.2.2.1, h.2.2.2.1, h.2.2.2.2.1, h.2.2.2.2.2.1, h.2.2.2.2.2.2.1, h.2.2.2.2.2.2.2.1, h.2.2.2.2.2.2.2.2.1⟩) _ _ _ _ ?_
  have hS8 := hkeep2.out w8 (Below.refl _ _)
  refine wpAnyH_yes (i := 30) (d := 71) (v := ?_) rfl rfl (by kernel_rfl) (by kernel_rfl) (by kernel_rfl) (fun _ _ _ h => h) (by rfl) ?_ hS8 ?_
  rotate_left
  · intro w' hSw; go_simp <;> with_reducible rfl
  simp only [Act.put, List.setIfInBounds_toArray, List.set_cons_zero, List.set_cons_succ]
  refine wpAnyH_one (i := 33) (by kernel_rfl) rfl (by rfl) (fun Kx hK8 => ?_)
  go_simp
  with_reducible refine (rpput_at A bs len cap L nm o k i t HN.out HL.out (by omega) hi1 hi2 (by omega) (by omega) _ (hra.below hS8.1)).mono ?_
  rintro e w9 ⟨D2, e2, rfl, hb9, hr9⟩
  rw [HX.out] at hr9
  have hst := str_below e2 hr9 HXL.out (Below.refl _ _)
  have hS9 := hkeep2.out w9 hb9
  go_wp2_with fail
  refine hK8.out _ _ hS9 ?_
  refine wpAnyH_one (i := 34) (by kernel_rfl) rfl (by rfl) (fun K hKc => ?_)
  go_simp
  refine hKc.out _ _ hS9 ?_
  refine wpAnyH_yes (i := 35) (d := 76) (v := ?_) rfl rfl (by kernel_rfl) (by kernel_rfl) (by kernel_rfl) (fun _ _ _ h => h) (by rfl) ?_ hS9 ?_
  rotate_left
  · intro w' hSw; go_simp <;> with_reducible rfl
  simp only [Act.put, List.setIfInBounds_toArray, List.set_cons_zero, List.set_cons_succ]
  refine wpAnyH_yes (i := 36) (d := 77) (v := ?_) rfl rfl (by kernel_rfl) (by kernel_rfl) (by kernel_rfl) (fun _ _ _ h => h) (by rfl) ?_ hS9 ?_
  rotate_left
  · intro w' hSw; go_simp <;> with_reducible rfl
  simp only [Act.put, List.setIfInBounds_toArray, List.set_cons_zero, List.set_cons_succ]
  refine wpAnyH_yes (i := 37) (d := 8) (v := ?_) rfl rfl (by kernel_rfl) (by kernel_rfl) (by kernel_rfl) (fun _ _ _ h => h) (by rfl) ?_ hS9 ?_
  rotate_left
  · intro w' hSw; go_simp <;> with_reducible rfl
  simp only [Act.put, List.setIfInBounds_toArray, List.set_cons_zero, List.set_cons_succ]
  refine wpAnyH_done (by kernel_rfl) ?_ _
  have hbl := below_next hbw (Nat.le_refl _) hS9.1
  go_wp2_with fail
  go_ret
  exact ⟨rfl, hbl⟩
theorem walk_PredTells (w : World) (nm : List UInt8) (o k i : Int) (t : List UInt8) (h0 : nm.length ≤ maxLen) (_ : (Lit.int .i64 o).wf = true) (_ : (Lit.int .i64 k).wf = true) (w1 : (Lit.int .i64 i).wf = true) (h1 : t.length ≤ maxLen) (k' i' : Int) (t' : List UInt8) (_ : (Lit.int .i64 k').wf = true) (_ : (Lit.int .i64 i').wf = true) (h2 : t'.length ≤ maxLen)
    (E : Option Addr) (es : List Ev.At) (m ce : Nat) (hem : es.length = m) (_hce : m ≤ ce) (hcm : ce ≤ maxLen) (rde : RdA w E es) (heb : ∀ a ∈ es, a.n.length ≤ maxLen ∧ a.t.length ≤ maxLen)
    (A : Option Addr) (bs : List UInt8) (len cap : Nat) (hl : bs.length = len) (_hc : len ≤ cap) (hm : cap ≤ 140737488351232) (rd : Rd w A bs) :
    Calls Try.prog 3 #[.agg #[.string ⟨nm.toArray⟩, .int .i64 o, .int .i64 k, .int .i64 i, .string ⟨t.toArray⟩], .agg #[.int .i64 k', .int .i64 i', .string ⟨t'.toArray⟩], .slice E m ce, .slice A len cap] w fun e w' => e = .returned (.bool true) ∧ Below w.heap.size w w' := by
  have hml : m ≤ maxLen := Nat.le_trans _hce hcm
  rw [maxLen_num] at h0 h1 h2
  have b1 := bounds_i64 w1
  have hL := Preds.lay_len nm o k i t b1.1 b1.2
  cases hf : decide (Ev.Few es) with
  | false => exact tells_many w nm o k i t k' i' t' E es m ce A len cap hem hml heb rde hf
  | true =>
    by_cases hout : 300 < nm.length ∨ 300 < t.length ∨ 300 < t'.length ∨ 300 < len
    · exact tells_out w nm o k i t k' i' t' E es m ce A len cap hem hml heb rde hf h0 h1 h2 (by omega) hout
    · exact tells_in w nm o k i t k' i' t' E es m ce A bs len cap hem hml heb rde hf (by omega) (by omega) (by omega) (by omega) hl rd b1.1 b1.2 _ _ _ _ _ rfl rfl rfl rfl rfl (by omega)

/-! ### The row's step. -/
namespace predTells
theorem own : ownKnob Try.prog.godebug = none := by kernel_rfl
theorem laidOut : laidOutB Try.prog = true := by kernel_rfl
set_option linter.unusedVariables false in
set_option maxRecDepth 100000 in
theorem lifted (os : Os) (started : os.Started) (H : Type) (enc : TypeId × Value → H) :
    ReturnsInHanded {} Try.checked os 3 .any (Rows.predTellsSpec.pre6 enc Try.prog Try.f3 Rows.predTellsRow.domain false) (Rows.predTellsSpec.post enc Try.prog Try.f3 false true false false) := by
  refine returnsInHanded_of_change_sized (C := Try.checked) own started (by kernel_rfl) Try.func3
    (ChangeSpec.witness6 (enc := enc) (C := Try.checked) false ⟨#[], #[.agg #[.string ⟨#[]⟩, .int .i64 0, .int .i64 0, .int .i64 0, .string ⟨#[]⟩], .agg #[.int .i64 0, .int .i64 0, .string ⟨#[]⟩], .slice none 0 0, .slice none 0 0], []⟩ 8 (by kernel_rfl) (by kernel_rfl) (by kernel_rfl) (by kernel_rfl)) ?_
  intro W base args ds gs before hval0 hW hcnd hsz0 _
  have hval : ∀ (j : Nat) t v, Try.f3.params[j]? = some t → args[j]? = some v → Value.okWide Try.prog W .any base t v := hval0
  have hsz : (DataW.weightsEach Try.prog (Try.f3.params.toList ++ Rows.predTellsSpec.plain.varTypes Try.prog) (ds ++ gs)).all (· ≤ reachBytes) = true := hsz0
  have hW' := hW
  obtain ⟨p, q, hA0, hV, rfl, hfz, hnd⟩ := hW
  have hA : DataW.TrodAll enc Try.prog W 0 (fun _ => true) true Try.f3.params.toList args.toList ds p := hA0
  rw [Try.params3] at hA hval hsz
  obtain ⟨v0, vs0, d0, ds0, p0, q0, hargs, rfl, rfl, h0, r0⟩ := trodAll_cons hA
  obtain ⟨v1, vs1, d1, ds1, p1, q1, rfl, rfl, rfl, h1, r1⟩ := trodAll_cons r0
  obtain ⟨v2, vs2, d2, ds2, p2, q2, rfl, rfl, rfl, h2, r2⟩ := trodAll_cons r1
  obtain ⟨v3, vs3, d3, ds3, p3, q3, rfl, rfl, rfl, h3, r3⟩ := trodAll_cons r2
  obtain ⟨rfl, rfl, rfl⟩ := trodAll_nil r3
  obtain rfl : args = #[v0, v1, v2, v3] := by cases args; simp_all
  obtain ⟨rfl, rfl⟩ := trodVars_none hV
  obtain ⟨nn0, oo0, kk0, ii0, ss0, rfl, wn0, wo0, wk0, wi0, ws0⟩ := open_pred_of Try.underlying25 (by kernel_rfl) ⟨rfl, rfl, by kernel_rfl⟩ ⟨rfl, rfl, by kernel_rfl⟩ ⟨rfl, rfl, by kernel_rfl⟩ Try.underlying9 Try.underlying3 Try.underlying23 ⟨rfl, rfl, by kernel_rfl⟩ ⟨rfl, rfl, by kernel_rfl⟩ ⟨rfl, rfl, by kernel_rfl⟩ Try.underlying3 Try.underlying3 Try.underlying9 (hval 0 25 v0 rfl rfl) h0
  have k0 := h0
  have lt0 : ∀ x ∈ p0, x.block < W.heap.size := by obtain ⟨m, hm⟩ := k0; exact DataW.trod_lt m _ _ _ hm
  obtain ⟨kk1, ii1, ss1, rfl, wk1, wi1, ws1⟩ := open_val_of Try.underlying23 (by kernel_rfl) (by kernel_rfl) Try.underlying3 Try.underlying3 Try.underlying9 (hval 1 23 v1 rfl rfl) h1
  have k1 := h1
  have lt1 : ∀ x ∈ p1, x.block < W.heap.size := by obtain ⟨m, hm⟩ := k1; exact DataW.trod_lt m _ _ _ hm
  obtain ⟨a2, len2, cap2, rfl⟩ := okWide_slice Try.underlying26 (hval 2 26 v2 rfl rfl)
  have k2 := h2
  have lt2 : ∀ x ∈ p2, x.block < W.heap.size := by obtain ⟨m, hm⟩ := k2; exact DataW.trod_lt m _ _ _ hm
  obtain ⟨es2, hl2, hc2, hm2, rd2, hw2⟩ := open_attrs_of Try.underlying26 Try.underlying52 (by kernel_rfl) ⟨rfl, rfl, by kernel_rfl⟩ ⟨rfl, rfl, by kernel_rfl⟩ Try.underlying9 Try.underlying23 ⟨rfl, rfl, by kernel_rfl⟩ ⟨rfl, rfl, by kernel_rfl⟩ ⟨rfl, rfl, by kernel_rfl⟩ Try.underlying3 Try.underlying3 Try.underlying9 k2
  obtain ⟨a3, len3, cap3, rfl⟩ := okWide_slice Try.underlying27 (hval 3 27 v3 rfl rfl)
  have k3 := h3
  have lt3 : ∀ x ∈ p3, x.block < W.heap.size := by obtain ⟨m, hm⟩ := k3; exact DataW.trod_lt m _ _ _ hm
  obtain ⟨bs3, hl3, hc3, hm3, rd3⟩ : ∃ bs : List UInt8, bs.length = len3 ∧ len3 ≤ cap3 ∧ cap3 ≤ 140737488351232 ∧ Rd W a3 bs := by
    obtain ⟨fuel, hf⟩ := h3
    rcases open_ints Try.underlying27 Try.underlying5 (by kernel_rfl) hf with ⟨hcs, _⟩ | ⟨x, l, c, zs, hcs, _, hl, hm, hz, hx, hcell, hwz⟩
    · simp [Value.cells] at hcs
      obtain ⟨rfl, rfl, rfl⟩ := hcs
      exact ⟨[], rfl, by omega, by omega, .inl rfl⟩
    · simp [Value.cells] at hcs
      obtain ⟨rfl, rfl, rfl⟩ := hcs
      have hz' : zs.length = cap3 := by simpa using hz
      have hd : d3 = .slice (lits .u8 (zs.take len3)) (lits .u8 (zs.drop len3)) := congrArg Prod.fst hx
      have hb := sized_slice hsz (j := 3) (t := 27) (elems := lits .u8 (zs.take len3)) (spare := lits .u8 (zs.drop len3)) rfl (by rw [hd]; rfl) Try.underlying27
      have hb' : cap3 ≤ 140737488351232 := by
        rw [show Try.prog.bytesOf 5 = 1 from by kernel_rfl] at hb
        simp [lits, reachBytes] at hb; omega
      obtain ⟨bs, e1, e2⟩ := rd_of_ints hl hz' hcell hwz
      exact ⟨bs, e1, hl, hb', e2⟩
  clear hA0 hval0
  refine (walk_PredTells W nn0 oo0 kk0 ii0 ss0 wn0 wo0 wk0 wi0 ws0 kk1 ii1 ss1 wk1 wi1 ws1 a2 es2 len2 cap2 hl2 hc2 hm2 rd2 hw2 a3 bs3 len3 cap3 hl3 hc3 hm3 rd3).mono fun e W' ⟨he, bel⟩ => ?_
  subst he
  exact ⟨_, rfl, _, _, _, [], _, [], hW', trodAll_mk1 (shut_bool Try.underlying4 _), (trodAll_cons_mk (Below.trod laidOut (by kernel_rfl) (of_decide_eq_true (by kernel_rfl)) k0 bel lt0) (trodAll_cons_mk (Below.trod laidOut (by kernel_rfl) (of_decide_eq_true (by kernel_rfl)) k1 bel lt1) (trodAll_cons_mk (Below.trod laidOut (by kernel_rfl) (of_decide_eq_true (by kernel_rfl)) k2 bel lt2) (trodAll_cons_mk (Below.trod laidOut (by kernel_rfl) (of_decide_eq_true (by kernel_rfl)) k3 bel lt3) trodAll_mk0)))), rfl, bel.frame _, fun h => by cases h⟩
theorem over : Rows.predTellsRow.holds Try.pinned (OpenSpec.ofChange Rows.predTellsSpec) :=
  OpenClaim.holds_of_wide 3 Try.f3 rfl rfl rfl rfl rfl rfl rfl ⟨rfl, rfl, rfl, rfl, rfl⟩ rfl rfl rfl rfl rfl (by kernel_rfl) Try.func3 (by kernel_rfl)
    (of_decide_eq_true (by kernel_rfl)) (by unfold Func.isWrapper; first | (rw [if_pos (by decide +kernel)]; kernel_rfl) | (rw [if_neg (by decide +kernel)]; exact ⟨rfl, rfl⟩))
    (fun os started H enc _ => lifted os started H enc)
end predTells
/-- THE STATEMENT. -/
theorem predTells_holds : Rows.PredTellsSaid := predTells.over
#print axioms predTells_holds
end Go.Proofs.Ytcmjekchfgnbdaa
