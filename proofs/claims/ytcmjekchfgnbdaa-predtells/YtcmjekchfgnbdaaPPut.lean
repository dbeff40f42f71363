/- Package pred: a predicate's bytes: by the program, and by the document. -/
import Derived.Test.YtcmjekchfgnbdaaPRight
namespace Go.Proofs.Ytcmjekchfgnbdaa
open Go.RowKit
theorem put_eight (A : Option Addr) (bs : List UInt8) (n cap L : Nat) (hn : bs.length = n) (hL : n + (Wire.put 8).length = L) (hl : L ≤ 140737488355328) (w : World) (hr : Rd w A bs) :
    Calls Try.prog 33 #[.slice A n cap, .int .u64 8] w fun e w' => ∃ g, e = .returned (.slice (some ⟨g, 0, none⟩) L L) ∧ w.heap.size ≤ g ∧ Below w.heap.size w w' ∧ Blk w' g 5 ((bs ++ Wire.put 8).map Bv).toArray :=
  put_at A bs n cap 8 L hn hL (by decide) hl w hr
set_option maxRecDepth 100000 in
set_option maxHeartbeats 1600000 in
theorem pput_wrong (A : Option Addr) (bs : List UInt8) (n cap : Nat) (nm : List UInt8) (o k i : Int) (t : List UInt8) (hn : bs.length = n) (hl : n ≤ 140737488355328) (hnm : nm.length ≤ 9223372036854775807) (ht : t.length ≤ 9223372036854775807) (w : World) (hr : Rd w A bs) (hw : Preds.right nm o k i t = false) :
    Calls Try.prog 16 #[.slice A n cap, .agg #[.string ⟨nm.toArray⟩, .int .i64 o, .int .i64 k, .int .i64 i, .string ⟨t.toArray⟩]] w (Lays w bs n) := by
  obtain ⟨i0, hi0, hz0, hz1, hz2⟩ := info_parts byte_info
  have HW := Lib.hid hw
  have HN := Lib.hid hn
  clear hw hn
  obtain ⟨hP, hb0⟩ := box5 w 25 (.string ⟨nm.toArray⟩) (.int .i64 o) (.int .i64 k) (.int .i64 i) (.string ⟨t.toArray⟩)
  go_enter Try.func16, Try.ntmps16
  go_wp2_with fail
  generalize w.alloc (.cells #[.string ⟨nm.toArray⟩, .int .i64 o, .int .i64 k, .int .i64 i, .string ⟨t.toArray⟩] 25) = w0 at *
  refine (pright_is nm o k i t w0 hnm ht false HW.out).mono ?_
  rintro e w1 ⟨rfl, hb1⟩
  have hb1w := below_next hb0 (Nat.le_refl _) hb1
  have hr1 := (hr.below hb1w).below ((Below.refl _ _).alloc (Nat.le_refl _) (.cells #[] 5))
  clear hP hb0 hb1
  go_wp2_with (at_builtin; refine wpList_append_rd rfl (.tmp 9) (.tmp 10) 27 rfl w1.heap.size 5 i0 Try.underlying27 hi0 hz0 hz1 hz2 _ [] (by rfl) (Own.empty w1 w1.heap.size 5 (Nat.le_refl _)) A bs n cap (by rfl) hr1 HN.out (by simp; omega) (by simp) ?_; intro v2 w2 hO2 hb2' _ _)
  rw [List.nil_append] at hO2
  have hb2 := hb2' w1 ((Below.refl _ _).alloc (Nat.le_refl _) _)
  obtain ⟨D, c, rfl, hc, hr2⟩ := hO2.rd
  rw [HN.out] at hc
  go_ret
  rw [HN.out]
  exact ⟨D, c, rfl, hc, hb1w.trans (hb2.mono hb1w.size), hr2⟩
set_option maxRecDepth 100000 in
set_option maxHeartbeats 1600000 in
theorem pput_ex (A : Option Addr) (bs : List UInt8) (n cap L1 L2 : Nat) (nm : List UInt8) (k i : Int) (t : List UInt8) (hn : bs.length = n) (hL1 : n + (Wire.text nm).length = L1) (hL2 : L1 + (Wire.put 8).length = L2) (hl : L2 ≤ 140737488355328) (hnm : nm.length ≤ 9223372036854775807) (ht : t.length ≤ 9223372036854775807) (w : World) (hr : Rd w A bs) (hw : Preds.right nm 8 k i t = true) :
    Calls Try.prog 16 #[.slice A n cap, .agg #[.string ⟨nm.toArray⟩, .int .i64 8, .int .i64 k, .int .i64 i, .string ⟨t.toArray⟩]] w (Lays w (bs ++ (Wire.text nm ++ (Wire.put 8 ++ []))) L2) := by
  have HW := Lib.hid hw
  have HN := Lib.hid hn
  have HL1 := Lib.hid hL1
  have HL2 := Lib.hid hL2
  have hl1 : L1 ≤ 140737488355328 := by omega
  have hl2 : L2 ≤ 140737488355328 := by omega
  clear hw hn hL1 hL2
  have HX1 : Hid ((bs ++ Wire.text nm).length = L1) := by show _ = _; rw [List.length_append, HN.out, HL1.out]
  have HX2 : Hid (((bs ++ Wire.text nm) ++ Wire.put 8).length = L2) := by show _ = _; rw [List.length_append, HX1.out, HL2.out]
  obtain ⟨hP, hb0⟩ := box5 w 25 (.string ⟨nm.toArray⟩) (.int .i64 8) (.int .i64 k) (.int .i64 i) (.string ⟨t.toArray⟩)
  go_enter Try.func16, Try.ntmps16
  go_wp2_with fail
  generalize w.alloc (.cells #[.string ⟨nm.toArray⟩, .int .i64 8, .int .i64 k, .int .i64 i, .string ⟨t.toArray⟩] 25) = w0 at *
  refine (pright_is nm 8 k i t w0 hnm ht true HW.out).mono ?_
  rintro e w1 ⟨rfl, hb1⟩
  have hb1w := below_next hb0 (Nat.le_refl _) hb1
  have hP1 := hP.below hb1 hP.lt
  have hra := hr.below hb1w
  clear hP hb0 hb1 hr
  go_wp2_with fail
  have hkeep : Hid (∀ w', Below w1.heap.size w1 w' → Below w1.heap.size w1 w' ∧ w'.cell? ⟨w.heap.size, 0, none⟩ = some (.string ⟨nm.toArray⟩) ∧ w'.cell? ⟨w.heap.size, 1, none⟩ = some (.int .i64 8) ∧ w'.cell? ⟨w.heap.size, 2, none⟩ = some (.int .i64 k) ∧ w'.cell? ⟨w.heap.size, 3, none⟩ = some (.int .i64 i) ∧ w'.cell? ⟨w.heap.size, 4, none⟩ = some (.string ⟨t.toArray⟩)) := fun w' h => ⟨h, (hP1.below h hP1.lt).cell 0, (hP1.below h hP1.lt).cell 1, (hP1.below h hP1.lt).cell 2, (hP1.below h hP1.lt).cell 3, (hP1.below h hP1.lt).cell 4⟩
  have hS0 := hkeep.out w1.drew (Below.refl _ _).drew
  refine wp_region_held_drew (S := fun w' => Below w1.heap.size w1 w' ∧ w'.cell? ⟨w.heap.size, 0, none⟩ = some (.string ⟨nm.toArray⟩) ∧ w'.cell? ⟨w.heap.size, 1, none⟩ = some (.int .i64 8) ∧ w'.cell? ⟨w.heap.size, 2, none⟩ = some (.int .i64 k) ∧ w'.cell? ⟨w.heap.size, 3, none⟩ = some (.int .i64 i) ∧ w'.cell? ⟨w.heap.size, 4, none⟩ = some (.string ⟨t.toArray⟩)) (by kernel_rfl) hS0 (fun _ => ?_)
  refine wpAnyH_yes (i := 0) (d := 12) (v := ?_) rfl rfl (by kernel_rfl) (by kernel_rfl) (by kernel_rfl) (fun _ _ _ h => h) (by rfl) ?_ hS0 ?_
  rotate_left
  · intro w' hSw; go_simp <;> with_reducible rfl
  simp only [Act.put, List.setIfInBounds_toArray, List.set_cons_zero, List.set_cons_succ]
  refine wpAnyH_yes (i := 1) (d := 13) (v := ?_) rfl rfl (by kernel_rfl) (by kernel_rfl) (by kernel_rfl) (fun _ _ _ h => h) (by rfl) ?_ hS0 ?_
  rotate_left
  · intro w' hSw; go_simp <;> with_reducible rfl
  simp only [Act.put, List.setIfInBounds_toArray, List.set_cons_zero, List.set_cons_succ]
  refine wpAnyH_yes (i := 2) (d := 14) (v := ?_) rfl rfl (by kernel_rfl) (by kernel_rfl) (by kernel_rfl) (fun _ _ _ h => h) (by rfl) ?_ hS0 ?_
  rotate_left
  · intro w' hSw; go_simp <;> with_reducible rfl
  simp only [Act.put, List.setIfInBounds_toArray, List.set_cons_zero, List.set_cons_succ]
  refine wpAnyH_yes (i := 4) (d := 16) (v := ?_) rfl rfl (by kernel_rfl) (by kernel_rfl) (by kernel_rfl) (fun _ _ _ h => h) (by rfl) ?_ hS0 ?_
  rotate_left
  · intro w' hSw; go_simp <;> with_reducible rfl
  simp only [Act.put, List.setIfInBounds_toArray, List.set_cons_zero, List.set_cons_succ]
  refine wpAnyH_yes (i := 5) (d := 17) (v := ?_) rfl rfl (by kernel_rfl) (by kernel_rfl) (by kernel_rfl) (fun _ _ _ h => h) (by rfl) ?_ hS0 ?_
  rotate_left
  · intro w' hSw; go_simp <;> with_reducible rfl
  simp only [Act.put, List.setIfInBounds_toArray, List.set_cons_zero, List.set_cons_succ]
  refine wpAnyH_yes (i := 6) (d := 18) (v := .int .u64 8) rfl rfl (by kernel_rfl) (by kernel_rfl) (by kernel_rfl) (fun _ _ _ h => h) (by rfl) ?_ hS0 ?_
  · intro w' hSw
    go_simp
    all_goals first | rfl | (rw [IntKind.wrap_u64]; omega)
  simp only [Act.put, List.setIfInBounds_toArray, List.set_cons_zero, List.set_cons_succ]
  refine wpAnyH_one (i := 3) (by kernel_rfl) rfl (by rfl) (fun Kx hK1 => ?_)
  go_simp
  with_reducible refine (putText_at A bs nm n cap nm.length L1 HN.out rfl HL1.out hl1 _ (hra.below hS0.1)).mono ?_
  rintro e w2 ⟨g2, rfl, hg2, hb2, hB2⟩
  have hS1 := hkeep.out _ (below_next hS0.1 (Nat.le_refl _) hb2)
  go_wp2_with fail
  refine hK1.out _ _ hS1 ?_
  refine wpAnyH_one (i := 7) (by kernel_rfl) rfl (by rfl) (fun Kx hK2 => ?_)
  go_simp
  with_reducible refine (put_eight (some ⟨g2, 0, none⟩) (bs ++ Wire.text nm) L1 L1 L2 HX1.out HL2.out hl2 _ hB2.rd).mono ?_
  rintro e w3 ⟨g3, rfl, hg3, hb3, hB3⟩
  have hS2 := hkeep.out _ (below_next hS1.1 (Nat.le_refl _) hb3)
  go_wp2_with fail
  refine hK2.out _ _ hS2 ?_
  refine wpAnyH_yes (i := 8) (d := 5) (v := ?_) rfl rfl (by kernel_rfl) (by kernel_rfl) (by kernel_rfl) (fun _ _ _ h => h) (by rfl) ?_ hS2 ?_
  rotate_left
  · intro w' hSw; go_simp <;> with_reducible rfl
  simp only [Act.put, List.setIfInBounds_toArray, List.set_cons_zero, List.set_cons_succ]
  refine wpAnyH_done (by kernel_rfl) ?_ _
  have hbl := below_next hb1w (Nat.le_refl _) hS2.1
  obtain ⟨_, c0, c1, c2, c3, c4⟩ := hS2
  clear hS0 hS1 hkeep hP1 hra hb1w
  have hr3 := hB3.rd
  rw [List.append_assoc] at hr3
  go_wp2_with fail
  go_ret
  exact ⟨_, _, rfl, Nat.le_refl _, hbl, by rw [List.append_nil]; exact hr3⟩
set_option maxRecDepth 100000 in
set_option maxHeartbeats 1600000 in
theorem pput_so (A : Option Addr) (bs : List UInt8) (n cap L1 L2 L : Nat) (nm : List UInt8) (q : Nat) (k i : Int) (t : List UInt8) (hn : bs.length = n) (hL1 : n + (Wire.text nm).length = L1) (hL2 : L1 + (Wire.put q).length = L2) (hq : q ≤ 8) (hq8 : q ≠ 8) (hL : L2 + (Vals.lay k i t).length = L) (hl : L ≤ 140737488355328) (h1 : -9223372036854775808 ≤ i) (h2 : i ≤ 9223372036854775807) (hnm : nm.length ≤ 9223372036854775807) (ht : t.length ≤ 9223372036854775807) (w : World) (hr : Rd w A bs) (hw : Preds.right nm (q : Int) k i t = true) :
    Calls Try.prog 16 #[.slice A n cap, .agg #[.string ⟨nm.toArray⟩, .int .i64 (q : Int), .int .i64 k, .int .i64 i, .string ⟨t.toArray⟩]] w (Lays w (bs ++ (Wire.text nm ++ (Wire.put q ++ Vals.lay k i t))) L) := by
  have HW := Lib.hid hw
  have HN := Lib.hid hn
  have HL1 := Lib.hid hL1
  have HL2 := Lib.hid hL2
  have hl1 : L1 ≤ 140737488355328 := by omega
  have hl2 : L2 ≤ 140737488355328 := by omega
  have HL := Lib.hid hL
  have hqi : (q : Int) ≤ 18446744073709551615 := by omega
  have hq0 : (0 : Int) ≤ (q : Int) := by omega
  have e8 : ((q : Int) == 8) = false := by simp; omega
  have HQ : Hid (q < 2 ^ 64) := by show q < _; omega
  clear hw hn hL1 hL2 hL hq hq8
  have HX1 : Hid ((bs ++ Wire.text nm).length = L1) := by show _ = _; rw [List.length_append, HN.out, HL1.out]
  have HX2 : Hid (((bs ++ Wire.text nm) ++ Wire.put q).length = L2) := by show _ = _; rw [List.length_append, HX1.out, HL2.out]
  obtain ⟨hP, hb0⟩ := box5 w 25 (.string ⟨nm.toArray⟩) (.int .i64 (q : Int)) (.int .i64 k) (.int .i64 i) (.string ⟨t.toArray⟩)
  go_enter Try.func16, Try.ntmps16
  go_wp2_with fail
  generalize w.alloc (.cells #[.string ⟨nm.toArray⟩, .int .i64 (q : Int), .int .i64 k, .int .i64 i, .string ⟨t.toArray⟩] 25) = w0 at *
  refine (pright_is nm (q : Int) k i t w0 hnm ht true HW.out).mono ?_
  rintro e w1 ⟨rfl, hb1⟩
  have hb1w := below_next hb0 (Nat.le_refl _) hb1
  have hP1 := hP.below hb1 hP.lt
  have hra := hr.below hb1w
  clear hP hb0 hb1 hr
  go_wp2_with fail
  have hkeep : Hid (∀ w', Below w1.heap.size w1 w' → Below w1.heap.size w1 w' ∧ w'.cell? ⟨w.heap.size, 0, none⟩ = some (.string ⟨nm.toArray⟩) ∧ w'.cell? ⟨w.heap.size, 1, none⟩ = some (.int .i64 (q : Int)) ∧ w'.cell? ⟨w.heap.size, 2, none⟩ = some (.int .i64 k) ∧ w'.cell? ⟨w.heap.size, 3, none⟩ = some (.int .i64 i) ∧ w'.cell? ⟨w.heap.size, 4, none⟩ = some (.string ⟨t.toArray⟩)) := fun w' h => ⟨h, (hP1.below h hP1.lt).cell 0, (hP1.below h hP1.lt).cell 1, (hP1.below h hP1.lt).cell 2, (hP1.below h hP1.lt).cell 3, (hP1.below h hP1.lt).cell 4⟩
  have hS0 := hkeep.out w1.drew (Below.refl _ _).drew
  refine wp_region_held_drew (S := fun w' => Below w1.heap.size w1 w' ∧ w'.cell? ⟨w.heap.size, 0, none⟩ = some (.string ⟨nm.toArray⟩) ∧ w'.cell? ⟨w.heap.size, 1, none⟩ = some (.int .i64 (q : Int)) ∧ w'.cell? ⟨w.heap.size, 2, none⟩ = some (.int .i64 k) ∧ w'.cell? ⟨w.heap.size, 3, none⟩ = some (.int .i64 i) ∧ w'.cell? ⟨w.heap.size, 4, none⟩ = some (.string ⟨t.toArray⟩)) (by kernel_rfl) hS0 (fun _ => ?_)
  refine wpAnyH_yes (i := 0) (d := 12) (v := ?_) rfl rfl (by kernel_rfl) (by kernel_rfl) (by kernel_rfl) (fun _ _ _ h => h) (by rfl) ?_ hS0 ?_
  rotate_left
  · intro w' hSw; go_simp <;> with_reducible rfl
  simp only [Act.put, List.setIfInBounds_toArray, List.set_cons_zero, List.set_cons_succ]
  refine wpAnyH_yes (i := 1) (d := 13) (v := ?_) rfl rfl (by kernel_rfl) (by kernel_rfl) (by kernel_rfl) (fun _ _ _ h => h) (by rfl) ?_ hS0 ?_
  rotate_left
  · intro w' hSw; go_simp <;> with_reducible rfl
  simp only [Act.put, List.setIfInBounds_toArray, List.set_cons_zero, List.set_cons_succ]
  refine wpAnyH_yes (i := 2) (d := 14) (v := ?_) rfl rfl (by kernel_rfl) (by kernel_rfl) (by kernel_rfl) (fun _ _ _ h => h) (by rfl) ?_ hS0 ?_
  rotate_left
  · intro w' hSw; go_simp <;> with_reducible rfl
  simp only [Act.put, List.setIfInBounds_toArray, List.set_cons_zero, List.set_cons_succ]
  refine wpAnyH_yes (i := 4) (d := 16) (v := ?_) rfl rfl (by kernel_rfl) (by kernel_rfl) (by kernel_rfl) (fun _ _ _ h => h) (by rfl) ?_ hS0 ?_
  rotate_left
  · intro w' hSw; go_simp <;> with_reducible rfl
  simp only [Act.put, List.setIfInBounds_toArray, List.set_cons_zero, List.set_cons_succ]
  refine wpAnyH_yes (i := 5) (d := 17) (v := ?_) rfl rfl (by kernel_rfl) (by kernel_rfl) (by kernel_rfl) (fun _ _ _ h => h) (by rfl) ?_ hS0 ?_
  rotate_left
  · intro w' hSw; go_simp <;> with_reducible rfl
  simp only [Act.put, List.setIfInBounds_toArray, List.set_cons_zero, List.set_cons_succ]
  refine wpAnyH_yes (i := 6) (d := 18) (v := .int .u64 (q : Int)) rfl rfl (by kernel_rfl) (by kernel_rfl) (by kernel_rfl) (fun _ _ _ h => h) (by rfl) ?_ hS0 ?_
  · intro w' hSw
    go_simp
    all_goals first | rfl | (rw [IntKind.wrap_u64]; omega)
  simp only [Act.put, List.setIfInBounds_toArray, List.set_cons_zero, List.set_cons_succ]
  refine wpAnyH_one (i := 3) (by kernel_rfl) rfl (by rfl) (fun Kx hK3 => ?_)
  go_simp
  with_reducible refine (putText_at A bs nm n cap nm.length L1 HN.out rfl HL1.out hl1 _ (hra.below hS0.1)).mono ?_
  rintro e w2 ⟨g2, rfl, hg2, hb2, hB2⟩
  have hS1 := hkeep.out _ (below_next hS0.1 (Nat.le_refl _) hb2)
  go_wp2_with fail
  refine hK3.out _ _ hS1 ?_
  refine wpAnyH_one (i := 7) (by kernel_rfl) rfl (by rfl) (fun Kx hK4 => ?_)
  go_simp
  with_reducible refine (put_at (some ⟨g2, 0, none⟩) (bs ++ Wire.text nm) L1 L1 q L2 HX1.out HL2.out HQ.out hl2 _ hB2.rd).mono ?_
  rintro e w3 ⟨g3, rfl, hg3, hb3, hB3⟩
  have hS2 := hkeep.out _ (below_next hS1.1 (Nat.le_refl _) hb3)
  go_wp2_with fail
  refine hK4.out _ _ hS2 ?_
  refine wpAnyH_yes (i := 8) (d := 5) (v := ?_) rfl rfl (by kernel_rfl) (by kernel_rfl) (by kernel_rfl) (fun _ _ _ h => h) (by rfl) ?_ hS2 ?_
  rotate_left
  · intro w' hSw; go_simp <;> with_reducible rfl
  simp only [Act.put, List.setIfInBounds_toArray, List.set_cons_zero, List.set_cons_succ]
  refine wpAnyH_done (by kernel_rfl) ?_ _
  have hbl := below_next hb1w (Nat.le_refl _) hS2.1
  obtain ⟨_, c0, c1, c2, c3, c4⟩ := hS2
  clear hS0 hS1 hkeep hP1 hra hb1w
  go_wp2_with fail
  refine (vput_at (some ⟨g3, 0, none⟩) ((bs ++ Wire.text nm) ++ Wire.put q) L2 L2 L k i t HX2.out HL.out hl h1 h2 ht w3 hB3.rd).mono ?_
  rintro e w4 ⟨D, c, rfl, hc, hb4, hr4⟩
  rw [List.append_assoc, List.append_assoc] at hr4
  clear c0 c1 c2 c3 c4
  go_wp2_with fail
  go_ret
  exact ⟨D, c, rfl, hc, below_next hbl (Nat.le_refl _) hb4, hr4⟩
theorem pput_at (A : Option Addr) (bs : List UInt8) (n cap L : Nat) (nm : List UInt8) (o k i : Int) (t : List UInt8) (hn : bs.length = n) (hL : n + (Preds.lay nm o k i t).length = L) (hl : L ≤ 140737488355328) (h1 : -9223372036854775808 ≤ i) (h2 : i ≤ 9223372036854775807) (hnm : nm.length ≤ 9223372036854775807) (ht : t.length ≤ 9223372036854775807) (w : World) (hr : Rd w A bs) :
    Calls Try.prog 16 #[.slice A n cap, .agg #[.string ⟨nm.toArray⟩, .int .i64 o, .int .i64 k, .int .i64 i, .string ⟨t.toArray⟩]] w (Lays w (bs ++ Preds.lay nm o k i t) L) := by
  cases h : Preds.right nm o k i t with
  | false =>
    have e : Preds.lay nm o k i t = [] := by unfold Preds.lay; rw [h]; rfl
    rw [e] at hL ⊢
    rw [List.append_nil]
    simp only [List.length_nil, Nat.add_zero] at hL
    subst hL
    exact pput_wrong A bs n cap nm o k i t hn hl hnm ht w hr h
  | true =>
    have e : Preds.lay nm o k i t = Preds.bytes nm o k i t := by unfold Preds.lay; rw [if_pos h]
    rw [e] at hL ⊢
    unfold Preds.bytes at hL ⊢
    have ho : 0 ≤ o ∧ o ≤ 8 := by rcases Preds.asks_cases (Preds.right_parts h).2.2 with ⟨rfl, _⟩ | ⟨_, b1, b2, _⟩ <;> omega
    obtain ⟨q, rfl⟩ := Int.eq_ofNat_of_zero_le ho.1
    rw [Int.toNat_natCast] at hL ⊢
    by_cases h8 : q = 8
    · subst h8
      rw [if_pos (show ((8 : Nat) : Int) = 8 from rfl)] at hL ⊢
      refine pput_ex A bs n cap (n + (Wire.text nm).length) L nm k i t hn rfl ?_ hl hnm ht w hr h
      rw [← hL]; simp only [List.length_append, List.length_nil]; omega
    · rw [if_neg (by omega)] at hL ⊢
      refine pput_so A bs n cap (n + (Wire.text nm).length) (n + (Wire.text nm).length + (Wire.put q).length) L nm q k i t hn rfl rfl (by omega) h8 ?_ hl h1 h2 hnm ht w hr h
      rw [← hL]; simp only [List.length_append]; omega
end Go.Proofs.Ytcmjekchfgnbdaa
