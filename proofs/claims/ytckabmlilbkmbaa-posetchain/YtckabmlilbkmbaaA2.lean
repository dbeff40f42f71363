/- Contracts of the program and of the document (PHolds, PMeets), each used further on. -/
import Derived.Test.YtckabmlilbkmbaaM1
import Derived.Test.YtckabmlilbkmbaaA1
namespace Go.Proofs.Ytckabmlilbkmbaa
open Go.RowKit
theorem box53 (w : World) (t t2 : TypeId) (a b c d e a' b' c' : Value) :
    Blk ((w.alloc (.cells #[a, b, c, d, e] t)).alloc (.cells #[a', b', c'] t2)) w.heap.size t #[a, b, c, d, e] ∧ Blk ((w.alloc (.cells #[a, b, c, d, e] t)).alloc (.cells #[a', b', c'] t2)) (w.heap.size + 1) t2 #[a', b', c'] ∧
      Below w.heap.size w ((w.alloc (.cells #[a, b, c, d, e] t)).alloc (.cells #[a', b', c'] t2)) :=
  ⟨(Blk.new w _ _).alloc _, by simpa using Blk.new (w.alloc (.cells #[a, b, c, d, e] t)) t2 #[a', b', c'], ((Below.refl _ _).alloc (Nat.le_refl _) _).alloc (by simp) _⟩
set_option maxRecDepth 100000 in
set_option maxHeartbeats 1600000 in
theorem holds_wrong (n : List UInt8) (o k i : Int) (t : List UInt8) (k' i' : Int) (t' : List UInt8) (w : World) (hn : n.length ≤ 9223372036854775807) (hl : t.length ≤ 9223372036854775807) (_hl2 : t'.length ≤ 9223372036854775807) (hr : Preds.right n o k i t = false) : Calls Try.prog 46 #[.agg #[.string ⟨n.toArray⟩, .int .i64 o, .int .i64 k, .int .i64 i, .string ⟨t.toArray⟩], .agg #[.int .i64 k', .int .i64 i', .string ⟨t'.toArray⟩]] w fun e w' => e = .returned (.bool (false)) ∧ Below w.heap.size w w' := by
  have HR := Lib.hid hr
  clear hr
  obtain ⟨hP, hV, hb0⟩ := box53 w 47 45 (.string ⟨n.toArray⟩) (.int .i64 o) (.int .i64 k) (.int .i64 i) (.string ⟨t.toArray⟩) (.int .i64 k') (.int .i64 i') (.string ⟨t'.toArray⟩)
  go_enter Try.func46, Try.ntmps46
  go_wp2_with fail
  generalize (w.alloc (.cells #[.string ⟨n.toArray⟩, .int .i64 o, .int .i64 k, .int .i64 i, .string ⟨t.toArray⟩] 47)).alloc (.cells #[.int .i64 k', .int .i64 i', .string ⟨t'.toArray⟩] 45) = w0 at *
  refine (pright_is n o k i t w0 hn hl _ HR.out).mono ?_
  rintro e w1 ⟨rfl, hb1⟩
  have hP1 := hP.below hb1 hP.lt
  have hV1 := hV.below hb1 hV.lt
  have hbw := below_next hb0 (Nat.le_refl _) hb1
  clear hP hV hb0 hb1
  obtain ⟨c0, c1, c2, c3, c4, _, _, _, _, _⟩ := blk5 hP1
  obtain ⟨v0, v1, v2, _, _, _⟩ := blk3 hV1
  go_wp2_with fail
  go_ret
  exact ⟨rfl, hbw⟩
set_option maxRecDepth 100000 in
set_option maxHeartbeats 1600000 in
theorem holds_value (n : List UInt8) (o k i : Int) (t : List UInt8) (k' i' : Int) (t' : List UInt8) (w : World) (hn : n.length ≤ 9223372036854775807) (hl : t.length ≤ 9223372036854775807) (hl2 : t'.length ≤ 9223372036854775807) (hr : Preds.right n o k i t = true) (hv : Vals.right k' i' t' = false) : Calls Try.prog 46 #[.agg #[.string ⟨n.toArray⟩, .int .i64 o, .int .i64 k, .int .i64 i, .string ⟨t.toArray⟩], .agg #[.int .i64 k', .int .i64 i', .string ⟨t'.toArray⟩]] w fun e w' => e = .returned (.bool (false)) ∧ Below w.heap.size w w' := by
  have HR := Lib.hid hr
  have HV := Lib.hid hv
  clear hr hv
  obtain ⟨hP, hV, hb0⟩ := box53 w 47 45 (.string ⟨n.toArray⟩) (.int .i64 o) (.int .i64 k) (.int .i64 i) (.string ⟨t.toArray⟩) (.int .i64 k') (.int .i64 i') (.string ⟨t'.toArray⟩)
  go_enter Try.func46, Try.ntmps46
  go_wp2_with fail
  generalize (w.alloc (.cells #[.string ⟨n.toArray⟩, .int .i64 o, .int .i64 k, .int .i64 i, .string ⟨t.toArray⟩] 47)).alloc (.cells #[.int .i64 k', .int .i64 i', .string ⟨t'.toArray⟩] 45) = w0 at *
  refine (pright_is n o k i t w0 hn hl _ HR.out).mono ?_
  rintro e w1 ⟨rfl, hb1⟩
  have hP1 := hP.below hb1 hP.lt
  have hV1 := hV.below hb1 hV.lt
  have hbw := below_next hb0 (Nat.le_refl _) hb1
  clear hP hV hb0 hb1
  obtain ⟨c0, c1, c2, c3, c4, _, _, _, _, _⟩ := blk5 hP1
  obtain ⟨v0, v1, v2, _, _, _⟩ := blk3 hV1
  go_wp2_with fail
  refine (right_is k' i' t' w1 hl2 _ HV.out).mono ?_
  rintro e w2 ⟨rfl, hb2⟩
  have hP2 := hP1.below hb2 hP1.lt
  have hV2 := hV1.below hb2 hV1.lt
  have hb2w := below_next hbw (Nat.le_refl _) hb2
  clear hP1 hV1 hbw hb2 c0 c1 c2 c3 c4 v0 v1 v2
  obtain ⟨c0, c1, c2, c3, c4, _, _, _, _, _⟩ := blk5 hP2
  obtain ⟨v0, v1, v2, _, _, _⟩ := blk3 hV2
  have lt0 : w.heap.size < w2.heap.size := hP2.lt
  have lt1 : w.heap.size + 1 < w2.heap.size := hV2.lt
  go_wp2_with fail
  go_ret
  exact ⟨rfl, hb2w⟩
set_option maxRecDepth 100000 in
set_option maxHeartbeats 1600000 in
theorem holds_exists (n : List UInt8) (k i : Int) (t : List UInt8) (k' i' : Int) (t' : List UInt8) (w : World) (hn : n.length ≤ 9223372036854775807) (hl : t.length ≤ 9223372036854775807) (hl2 : t'.length ≤ 9223372036854775807) (hr : Preds.right n 8 k i t = true) (hv : Vals.right k' i' t' = true) : Calls Try.prog 46 #[.agg #[.string ⟨n.toArray⟩, .int .i64 8, .int .i64 k, .int .i64 i, .string ⟨t.toArray⟩], .agg #[.int .i64 k', .int .i64 i', .string ⟨t'.toArray⟩]] w fun e w' => e = .returned (.bool (true)) ∧ Below w.heap.size w w' := by
  have HR := Lib.hid hr
  have HV := Lib.hid hv
  clear hr hv
  obtain ⟨hP, hV, hb0⟩ := box53 w 47 45 (.string ⟨n.toArray⟩) (.int .i64 8) (.int .i64 k) (.int .i64 i) (.string ⟨t.toArray⟩) (.int .i64 k') (.int .i64 i') (.string ⟨t'.toArray⟩)
  go_enter Try.func46, Try.ntmps46
  go_wp2_with fail
  generalize (w.alloc (.cells #[.string ⟨n.toArray⟩, .int .i64 8, .int .i64 k, .int .i64 i, .string ⟨t.toArray⟩] 47)).alloc (.cells #[.int .i64 k', .int .i64 i', .string ⟨t'.toArray⟩] 45) = w0 at *
  refine (pright_is n 8 k i t w0 hn hl _ HR.out).mono ?_
  rintro e w1 ⟨rfl, hb1⟩
  have hP1 := hP.below hb1 hP.lt
  have hV1 := hV.below hb1 hV.lt
  have hbw := below_next hb0 (Nat.le_refl _) hb1
  clear hP hV hb0 hb1
  obtain ⟨c0, c1, c2, c3, c4, _, _, _, _, _⟩ := blk5 hP1
  obtain ⟨v0, v1, v2, _, _, _⟩ := blk3 hV1
  go_wp2_with fail
  refine (right_is k' i' t' w1 hl2 _ HV.out).mono ?_
  rintro e w2 ⟨rfl, hb2⟩
  have hP2 := hP1.below hb2 hP1.lt
  have hV2 := hV1.below hb2 hV1.lt
  have hb2w := below_next hbw (Nat.le_refl _) hb2
  clear hP1 hV1 hbw hb2 c0 c1 c2 c3 c4 v0 v1 v2
  obtain ⟨c0, c1, c2, c3, c4, _, _, _, _, _⟩ := blk5 hP2
  obtain ⟨v0, v1, v2, _, _, _⟩ := blk3 hV2
  have lt0 : w.heap.size < w2.heap.size := hP2.lt
  have lt1 : w.heap.size + 1 < w2.heap.size := hV2.lt
  go_wp2_with fail
  go_ret
  exact ⟨rfl, hb2w⟩
set_option maxRecDepth 100000 in
set_option maxHeartbeats 1600000 in
theorem holds_kind (n : List UInt8) (o k i : Int) (t : List UInt8) (k' i' : Int) (t' : List UInt8) (w : World) (hn : n.length ≤ 9223372036854775807) (hl : t.length ≤ 9223372036854775807) (hl2 : t'.length ≤ 9223372036854775807) (hr : Preds.right n o k i t = true) (hv : Vals.right k' i' t' = true) (h8 : o ≠ 8) (hk : k' ≠ k) : Calls Try.prog 46 #[.agg #[.string ⟨n.toArray⟩, .int .i64 o, .int .i64 k, .int .i64 i, .string ⟨t.toArray⟩], .agg #[.int .i64 k', .int .i64 i', .string ⟨t'.toArray⟩]] w fun e w' => e = .returned (.bool (false)) ∧ Below w.heap.size w w' := by
  have HR := Lib.hid hr
  have HV := Lib.hid hv
  have e8 : (o == 8) = false := by simpa using h8
  have ek : (k' != k) = true := by simpa using hk
  clear hr hv h8 hk
  obtain ⟨hP, hV, hb0⟩ := box53 w 47 45 (.string ⟨n.toArray⟩) (.int .i64 o) (.int .i64 k) (.int .i64 i) (.string ⟨t.toArray⟩) (.int .i64 k') (.int .i64 i') (.string ⟨t'.toArray⟩)
  go_enter Try.func46, Try.ntmps46
  go_wp2_with fail
  generalize (w.alloc (.cells #[.string ⟨n.toArray⟩, .int .i64 o, .int .i64 k, .int .i64 i, .string ⟨t.toArray⟩] 47)).alloc (.cells #[.int .i64 k', .int .i64 i', .string ⟨t'.toArray⟩] 45) = w0 at *
  refine (pright_is n o k i t w0 hn hl _ HR.out).mono ?_
  rintro e w1 ⟨rfl, hb1⟩
  have hP1 := hP.below hb1 hP.lt
  have hV1 := hV.below hb1 hV.lt
  have hbw := below_next hb0 (Nat.le_refl _) hb1
  clear hP hV hb0 hb1
  obtain ⟨c0, c1, c2, c3, c4, _, _, _, _, _⟩ := blk5 hP1
  obtain ⟨v0, v1, v2, _, _, _⟩ := blk3 hV1
  go_wp2_with fail
  refine (right_is k' i' t' w1 hl2 _ HV.out).mono ?_
  rintro e w2 ⟨rfl, hb2⟩
  have hP2 := hP1.below hb2 hP1.lt
  have hV2 := hV1.below hb2 hV1.lt
  have hb2w := below_next hbw (Nat.le_refl _) hb2
  clear hP1 hV1 hbw hb2 c0 c1 c2 c3 c4 v0 v1 v2
  obtain ⟨c0, c1, c2, c3, c4, _, _, _, _, _⟩ := blk5 hP2
  obtain ⟨v0, v1, v2, _, _, _⟩ := blk3 hV2
  have lt0 : w.heap.size < w2.heap.size := hP2.lt
  have lt1 : w.heap.size + 1 < w2.heap.size := hV2.lt
  go_wp2_with fail
  go_ret
  exact ⟨rfl, hb2w⟩
set_option maxRecDepth 100000 in
set_option maxHeartbeats 1600000 in
theorem holds_pre (n : List UInt8) (k i : Int) (t : List UInt8) (i' : Int) (t' : List UInt8) (w : World) (hn : n.length ≤ 9223372036854775807) (hl : t.length ≤ 9223372036854775807) (hl2 : t'.length ≤ 9223372036854775807) (hr : Preds.right n 7 k i t = true) (hv : Vals.right k i' t' = true) : Calls Try.prog 46 #[.agg #[.string ⟨n.toArray⟩, .int .i64 7, .int .i64 k, .int .i64 i, .string ⟨t.toArray⟩], .agg #[.int .i64 k, .int .i64 i', .string ⟨t'.toArray⟩]] w fun e w' => e = .returned (.bool (Preds.begins t' t)) ∧ Below w.heap.size w w' := by
  have HR := Lib.hid hr
  have HV := Lib.hid hv
  clear hr hv
  obtain ⟨hP, hV, hb0⟩ := box53 w 47 45 (.string ⟨n.toArray⟩) (.int .i64 7) (.int .i64 k) (.int .i64 i) (.string ⟨t.toArray⟩) (.int .i64 k) (.int .i64 i') (.string ⟨t'.toArray⟩)
  go_enter Try.func46, Try.ntmps46
  go_wp2_with fail
  generalize (w.alloc (.cells #[.string ⟨n.toArray⟩, .int .i64 7, .int .i64 k, .int .i64 i, .string ⟨t.toArray⟩] 47)).alloc (.cells #[.int .i64 k, .int .i64 i', .string ⟨t'.toArray⟩] 45) = w0 at *
  refine (pright_is n 7 k i t w0 hn hl _ HR.out).mono ?_
  rintro e w1 ⟨rfl, hb1⟩
  have hP1 := hP.below hb1 hP.lt
  have hV1 := hV.below hb1 hV.lt
  have hbw := below_next hb0 (Nat.le_refl _) hb1
  clear hP hV hb0 hb1
  obtain ⟨c0, c1, c2, c3, c4, _, _, _, _, _⟩ := blk5 hP1
  obtain ⟨v0, v1, v2, _, _, _⟩ := blk3 hV1
  go_wp2_with fail
  refine (right_is k i' t' w1 hl2 _ HV.out).mono ?_
  rintro e w2 ⟨rfl, hb2⟩
  have hP2 := hP1.below hb2 hP1.lt
  have hV2 := hV1.below hb2 hV1.lt
  have hb2w := below_next hbw (Nat.le_refl _) hb2
  clear hP1 hV1 hbw hb2 c0 c1 c2 c3 c4 v0 v1 v2
  obtain ⟨c0, c1, c2, c3, c4, _, _, _, _, _⟩ := blk5 hP2
  obtain ⟨v0, v1, v2, _, _, _⟩ := blk3 hV2
  have lt0 : w.heap.size < w2.heap.size := hP2.lt
  have lt1 : w.heap.size + 1 < w2.heap.size := hV2.lt
  go_wp2_with fail
  refine (hasPrefix_at t' t w2 hl2 hl).mono ?_
  rintro e w3 ⟨rfl, rfl⟩
  go_wp2_with fail
  go_ret
  exact ⟨rfl, hb2w⟩
set_option maxRecDepth 100000 in
set_option maxHeartbeats 1600000 in
theorem holds_ord (n : List UInt8) (o k i : Int) (t : List UInt8) (i' : Int) (t' : List UInt8) (w : World) (hn : n.length ≤ 9223372036854775807) (hl : t.length ≤ 9223372036854775807) (hl2 : t'.length ≤ 9223372036854775807) (hr : Preds.right n o k i t = true) (hv : Vals.right k i' t' = true) (h8 : o ≠ 8) (h7 : o ≠ 7) (z : Int) (hz : Vals.cmp k i' t' k i t = z) : Calls Try.prog 46 #[.agg #[.string ⟨n.toArray⟩, .int .i64 o, .int .i64 k, .int .i64 i, .string ⟨t.toArray⟩], .agg #[.int .i64 k, .int .i64 i', .string ⟨t'.toArray⟩]] w fun e w' => e = .returned (.bool (Preds.allows o z)) ∧ Below w.heap.size w w' := by
  have HR := Lib.hid hr
  have HV := Lib.hid hv
  have HZ := Lib.hid hz
  have e8 : (o == 8) = false := by simpa using h8
  have e7 : (o == 7) = false := by simpa using h7
  clear hr hv h8 h7 hz
  obtain ⟨hP, hV, hb0⟩ := box53 w 47 45 (.string ⟨n.toArray⟩) (.int .i64 o) (.int .i64 k) (.int .i64 i) (.string ⟨t.toArray⟩) (.int .i64 k) (.int .i64 i') (.string ⟨t'.toArray⟩)
  go_enter Try.func46, Try.ntmps46
  go_wp2_with fail
  generalize (w.alloc (.cells #[.string ⟨n.toArray⟩, .int .i64 o, .int .i64 k, .int .i64 i, .string ⟨t.toArray⟩] 47)).alloc (.cells #[.int .i64 k, .int .i64 i', .string ⟨t'.toArray⟩] 45) = w0 at *
  refine (pright_is n o k i t w0 hn hl _ HR.out).mono ?_
  rintro e w1 ⟨rfl, hb1⟩
  have hP1 := hP.below hb1 hP.lt
  have hV1 := hV.below hb1 hV.lt
  have hbw := below_next hb0 (Nat.le_refl _) hb1
  clear hP hV hb0 hb1
  obtain ⟨c0, c1, c2, c3, c4, _, _, _, _, _⟩ := blk5 hP1
  obtain ⟨v0, v1, v2, _, _, _⟩ := blk3 hV1
  go_wp2_with fail
  refine (right_is k i' t' w1 hl2 _ HV.out).mono ?_
  rintro e w2 ⟨rfl, hb2⟩
  have hP2 := hP1.below hb2 hP1.lt
  have hV2 := hV1.below hb2 hV1.lt
  have hb2w := below_next hbw (Nat.le_refl _) hb2
  clear hP1 hV1 hbw hb2 c0 c1 c2 c3 c4 v0 v1 v2
  obtain ⟨c0, c1, c2, c3, c4, _, _, _, _, _⟩ := blk5 hP2
  obtain ⟨v0, v1, v2, _, _, _⟩ := blk3 hV2
  have lt0 : w.heap.size < w2.heap.size := hP2.lt
  have lt1 : w.heap.size + 1 < w2.heap.size := hV2.lt
  go_wp2_with fail
  clear c0 c1 c2 c3 c4 v0 v1 v2
  have hkeep : Hid (∀ w', Below w2.heap.size w2 w' → Below w2.heap.size w2 w' ∧ w'.cell? ⟨w.heap.size, 0, none⟩ = some (.string ⟨n.toArray⟩) ∧ w'.cell? ⟨w.heap.size, 1, none⟩ = some (.int .i64 o) ∧ w'.cell? ⟨w.heap.size, 2, none⟩ = some (.int .i64 k) ∧ w'.cell? ⟨w.heap.size, 3, none⟩ = some (.int .i64 i) ∧ w'.cell? ⟨w.heap.size, 4, none⟩ = some (.string ⟨t.toArray⟩) ∧ w'.cell? ⟨w.heap.size + 1, 0, none⟩ = some (.int .i64 k) ∧ w'.cell? ⟨w.heap.size + 1, 1, none⟩ = some (.int .i64 i') ∧ w'.cell? ⟨w.heap.size + 1, 2, none⟩ = some ((.string ⟨t'.toArray⟩))) := fun w' h => ⟨h, (hP2.below h hP2.lt).cell 0, (hP2.below h hP2.lt).cell 1, (hP2.below h hP2.lt).cell 2, (hP2.below h hP2.lt).cell 3, (hP2.below h hP2.lt).cell 4, (hV2.below h hV2.lt).cell 0, (hV2.below h hV2.lt).cell 1, (hV2.below h hV2.lt).cell 2⟩
  have hS0 := hkeep.out w2.drew (Below.refl _ _).drew
  refine wp_region_held_drew (S := fun w' => Below w2.heap.size w2 w' ∧ w'.cell? ⟨w.heap.size, 0, none⟩ = some (.string ⟨n.toArray⟩) ∧ w'.cell? ⟨w.heap.size, 1, none⟩ = some (.int .i64 o) ∧ w'.cell? ⟨w.heap.size, 2, none⟩ = some (.int .i64 k) ∧ w'.cell? ⟨w.heap.size, 3, none⟩ = some (.int .i64 i) ∧ w'.cell? ⟨w.heap.size, 4, none⟩ = some (.string ⟨t.toArray⟩) ∧ w'.cell? ⟨w.heap.size + 1, 0, none⟩ = some (.int .i64 k) ∧ w'.cell? ⟨w.heap.size + 1, 1, none⟩ = some (.int .i64 i') ∧ w'.cell? ⟨w.heap.size + 1, 2, none⟩ = some ((.string ⟨t'.toArray⟩))) (by kernel_rfl) hS0 (fun _ => ?_)
  refine wpAnyH_yes (i := 0) (d := 31) (v := ?_) rfl rfl (by kernel_rfl) (by kernel_rfl) (by kernel_rfl) (fun _ _ _ h => h) (by rfl) ?_ hS0 ?_
  rotate_left
  · intro w' hSw; go_simp <;> with_reducible rfl
  simp only [Act.put, List.setIfInBounds_toArray, List.set_cons_zero, List.set_cons_succ]
  refine wpAnyH_yes (i := 1) (d := 32) (v := ?_) rfl rfl (by kernel_rfl) (by kernel_rfl) (by kernel_rfl) (fun _ _ _ h => h) (by rfl) ?_ hS0 ?_
  rotate_left
  · intro w' hSw; go_simp <;> with_reducible rfl
  simp only [Act.put, List.setIfInBounds_toArray, List.set_cons_zero, List.set_cons_succ]
  refine wpAnyH_yes (i := 2) (d := 33) (v := ?_) rfl rfl (by kernel_rfl) (by kernel_rfl) (by kernel_rfl) (fun _ _ _ h => h) (by rfl) ?_ hS0 ?_
  rotate_left
  · intro w' hSw; go_simp <;> with_reducible rfl
  simp only [Act.put, List.setIfInBounds_toArray, List.set_cons_zero, List.set_cons_succ]
  refine wpAnyH_yes (i := 3) (d := 34) (v := ?_) rfl rfl (by kernel_rfl) (by kernel_rfl) (by kernel_rfl) (fun _ _ _ h => h) (by rfl) ?_ hS0 ?_
  rotate_left
  · intro w' hSw; go_simp <;> with_reducible rfl
  simp only [Act.put, List.setIfInBounds_toArray, List.set_cons_zero, List.set_cons_succ]
  refine wpAnyH_yes (i := 4) (d := 35) (v := ?_) rfl rfl (by kernel_rfl) (by kernel_rfl) (by kernel_rfl) (fun _ _ _ h => h) (by rfl) ?_ hS0 ?_
  rotate_left
  · intro w' hSw; go_simp <;> with_reducible rfl
  simp only [Act.put, List.setIfInBounds_toArray, List.set_cons_zero, List.set_cons_succ]
  refine wpAnyH_one (i := 5) (by kernel_rfl) rfl (by rfl) (fun Kx hK1 => ?_)
  go_simp
  with_reducible refine (compare_is k i' t' k i t z HZ.out _).mono ?_
  rintro e w3 ⟨rfl, hb3⟩
  have hS1 := hkeep.out _ (below_next hS0.1 (Nat.le_refl _) hb3)
  go_wp2_with fail
  refine hK1.out _ _ hS1 ?_
  refine wpAnyH_one (i := 6) (by kernel_rfl) rfl (by rfl) (fun Kx hK2 => ?_)
  go_simp
  with_reducible refine (allows_at o z _).mono ?_
  rintro e w4 ⟨rfl, rfl⟩
  go_wp2_with fail
  refine hK2.out _ _ hS1 ?_
  refine wpAnyH_yes (i := 7) (d := 4) (v := ?_) rfl rfl (by kernel_rfl) (by kernel_rfl) (by kernel_rfl) (fun _ _ _ h => h) (by rfl) ?_ hS1 ?_
  rotate_left
  · intro w' hSw; go_simp <;> with_reducible rfl
  simp only [Act.put, List.setIfInBounds_toArray, List.set_cons_zero, List.set_cons_succ]
  refine wpAnyH_done (by kernel_rfl) ?_ _
  have hbl := below_next hb2w (Nat.le_refl _) hS1.1
  go_wp2_with fail
  go_ret
  exact ⟨rfl, hbl⟩
theorem holds_at (n : List UInt8) (o k i : Int) (t : List UInt8) (k' i' : Int) (t' : List UInt8) (w : World) (hn : n.length ≤ 9223372036854775807) (hl : t.length ≤ 9223372036854775807) (hl2 : t'.length ≤ 9223372036854775807) : Calls Try.prog 46 #[.agg #[.string ⟨n.toArray⟩, .int .i64 o, .int .i64 k, .int .i64 i, .string ⟨t.toArray⟩], .agg #[.int .i64 k', .int .i64 i', .string ⟨t'.toArray⟩]] w fun e w' => e = .returned (.bool (Preds.holds n o k i t k' i' t')) ∧ Below w.heap.size w w' := by
  cases hr : Preds.right n o k i t with
  | false =>
    have e : Preds.holds n o k i t k' i' t' = false := by unfold Preds.holds; rw [hr]; rfl
    rw [e]; exact holds_wrong n o k i t k' i' t' w hn hl hl2 hr
  | true =>
    cases hv : Vals.right k' i' t' with
    | false =>
      have e : Preds.holds n o k i t k' i' t' = false := by unfold Preds.holds; rw [hr, hv]; rfl
      rw [e]; exact holds_value n o k i t k' i' t' w hn hl hl2 hr hv
    | true =>
      have e : Preds.holds n o k i t k' i' t' = Preds.met o k i t k' i' t' := by unfold Preds.holds; rw [hr, hv]; rfl
      rw [e]
      unfold Preds.met
      by_cases h8 : o = 8
      · subst h8; rw [if_pos rfl]; exact holds_exists n k i t k' i' t' w hn hl hl2 hr hv
      · rw [if_neg h8]
        by_cases hk : k' = k
        · subst hk
          rw [decide_eq_true rfl, Bool.true_and]
          by_cases h7 : o = 7
          · subst h7; rw [if_pos rfl]; exact holds_pre n k' i t i' t' w hn hl hl2 hr hv
          · rw [if_neg h7]; exact holds_ord n o k' i t i' t' w hn hl hl2 hr hv h8 h7 _ rfl
        · rw [decide_eq_false hk, Bool.false_and]
          exact holds_kind n o k i t k' i' t' w hn hl hl2 hr hv h8 hk
theorem holds_is (n : List UInt8) (o k i : Int) (t : List UInt8) (k' i' : Int) (t' : List UInt8) (w : World) (hn : n.length ≤ 9223372036854775807) (hl : t.length ≤ 9223372036854775807) (hl2 : t'.length ≤ 9223372036854775807) (b : Bool) (hb : Preds.holds n o k i t k' i' t' = b) : Calls Try.prog 46 #[.agg #[.string ⟨n.toArray⟩, .int .i64 o, .int .i64 k, .int .i64 i, .string ⟨t.toArray⟩], .agg #[.int .i64 k', .int .i64 i', .string ⟨t'.toArray⟩]] w fun e w' => e = .returned (.bool (b)) ∧ Below w.heap.size w w' := by
  subst hb; exact holds_at n o k i t k' i' t' w hn hl hl2
end Go.Proofs.Ytckabmlilbkmbaa
namespace Go.Proofs.Ytckabmlilbkmbaa
open Go.RowKit Go.Sort Ev
/-- Does an event meet a predicate? -/
def meetsV (es : List At) (n : List UInt8) (o k i : Int) (t : List UInt8) : Bool :=
  match find es n with
  | some a => Preds.holds n o k i t a.k a.i a.t
  | none => false
theorem find_mem {es : List At} {s : List UInt8} {a : At} (h : find es s = some a) : a ∈ es := List.mem_of_find?_eq_some h
theorem pgot_some (A : Option Addr) (es : List At) (n c : Nat) (hn : es.length = n) (hm : n ≤ maxLen) (s : List UInt8) (an : List UInt8) (ak ai : Int) (at_ : List UInt8) (hf : find es s = some ⟨an, ak, ai, at_⟩) (w : World) (hr : RdA w A es) :
    Calls Try.prog 45 #[.slice A n c, .string ⟨s.toArray⟩] w fun e w' => e = .returned (.tuple #[.agg #[.int .i64 ak, .int .i64 ai, .string ⟨at_.toArray⟩], .bool true]) ∧ Below w.heap.size w w' := by
  have h := get_at A es n c hn hm s w hr
  rw [hf] at h
  exact h
theorem pgot_none (A : Option Addr) (es : List At) (n c : Nat) (hn : es.length = n) (hm : n ≤ maxLen) (s : List UInt8) (hf : find es s = none) (w : World) (hr : RdA w A es) :
    Calls Try.prog 45 #[.slice A n c, .string ⟨s.toArray⟩] w fun e w' => e = .returned (.tuple #[.agg #[.int .i64 0, .int .i64 0, .string ⟨#[]⟩], .bool false]) ∧ Below w.heap.size w w' := by
  have h := get_at A es n c hn hm s w hr
  rw [hf] at h
  exact h
set_option maxRecDepth 100000 in
set_option maxHeartbeats 1600000 in
theorem meets_at (n : List UInt8) (o k i : Int) (t : List UInt8) (A : Option Addr) (es : List At) (m c : Nat) (w : World) (hm : es.length = m) (hml : m ≤ maxLen) (hb : ∀ a ∈ es, a.n.length ≤ maxLen ∧ a.t.length ≤ maxLen) (hn : n.length ≤ 9223372036854775807) (hl : t.length ≤ 9223372036854775807) (hr : RdA w A es) :
    Calls Try.prog 33 #[.agg #[.string ⟨n.toArray⟩, .int .i64 o, .int .i64 k, .int .i64 i, .string ⟨t.toArray⟩], .slice A m c] w fun e w' => e = .returned (.bool (meetsV es n o k i t)) ∧ Below w.heap.size w w' := by
  have HM := Lib.hid hm
  have HB := Lib.hid hb
  clear hm hb
  obtain ⟨hP, hb0⟩ := box5 w 47 (.string ⟨n.toArray⟩) (.int .i64 o) (.int .i64 k) (.int .i64 i) (.string ⟨t.toArray⟩)
  have hr0 := hr.below hb0
  go_enter Try.func33, Try.ntmps33
  go_wp2_with fail
  generalize w.alloc (.cells #[.string ⟨n.toArray⟩, .int .i64 o, .int .i64 k, .int .i64 i, .string ⟨t.toArray⟩] 47) = w0 at *
  rcases hf : find es n with _ | ⟨an, ak, ai, at_⟩
  · have HF : Hid (meetsV es n o k i t = false) := by show _ = _; unfold meetsV; rw [hf]
    refine (pgot_none A es m c HM.out hml n hf w0 hr0).mono ?_
    rintro e w1 ⟨rfl, hb1⟩
    have hbw := below_next hb0 (Nat.le_refl _) hb1
    clear hf hr0 hb0 hb1 hr hP
    go_wp2_with fail
    go_ret
    exact ⟨ret_b HF.out.symm, hbw.alloc hbw.size _⟩
  · have HF : Hid (meetsV es n o k i t = Preds.holds n o k i t ak ai at_) := by show _ = _; unfold meetsV; rw [hf]
    have ha : at_.length ≤ maxLen := (HB.out _ (find_mem hf)).2
    rw [maxLen_num] at ha
    refine (pgot_some A es m c HM.out hml n an ak ai at_ hf w0 hr0).mono ?_
    rintro e w1 ⟨rfl, hb1⟩
    have hP1 := hP.below hb1 hP.lt
    have hbw := below_next hb0 (Nat.le_refl _) hb1
    obtain ⟨c0, c1, c2, c3, c4, _, _, _, _, _⟩ := blk5 hP1
    have lt0 : w.heap.size < w1.heap.size := hP1.lt
    have hbx := hbw.alloc hbw.size (.cells #[.int .i64 ak, .int .i64 ai, .string ⟨at_.toArray⟩] 45)
    clear hf hr0 hb0 hb1 hr hP
    go_wp2_with fail
    refine (holds_is n o k i t ak ai at_ _ hn hl ha _ HF.out.symm).mono ?_
    rintro e w2 ⟨rfl, hb2⟩
    have hby := below_next hbx (Nat.le_refl _) hb2
    clear hb2 hbx c0 c1 c2 c3 c4
    go_wp2_with fail
    go_ret
    exact ⟨rfl, hby⟩
theorem meets_is (n : List UInt8) (o k i : Int) (t : List UInt8) (A : Option Addr) (es : List At) (m c : Nat) (w : World) (hm : es.length = m) (hml : m ≤ maxLen) (hb : ∀ a ∈ es, a.n.length ≤ maxLen ∧ a.t.length ≤ maxLen) (hn : n.length ≤ 9223372036854775807) (hl : t.length ≤ 9223372036854775807) (hr : RdA w A es) (b : Bool) (hv : meetsV es n o k i t = b) :
    Calls Try.prog 33 #[.agg #[.string ⟨n.toArray⟩, .int .i64 o, .int .i64 k, .int .i64 i, .string ⟨t.toArray⟩], .slice A m c] w fun e w' => e = .returned (.bool b) ∧ Below w.heap.size w w' := by
  subst hv; exact meets_at n o k i t A es m c w hm hml hb hn hl hr
end Go.Proofs.Ytckabmlilbkmbaa
