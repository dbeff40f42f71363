/- Package span: Of, of ints and bools. -/
import Derived.Test.YtcgmbgfbhdimeaaSOf
import Derived.Test.YtcgmbgfbhdimeaaSPre
namespace Go.Proofs.Ytcgmbgfbhdimeaa
open Go.RowKit Go.Sort Spans Op
set_option maxRecDepth 100000 in
set_option maxHeartbeats 4000000 in
theorem of_N1 (n : List UInt8) (k i : Int) (hk : k = 1 ∨ k = 3) (hl1 : lowest k ≤ i) (hl2 : i ≤ highest k) (w : World) (hn : n.length ≤ 9223372036854775807) (hr : Preds.right n 1 k i [] = true) :
    Calls Try.prog 28 #[.agg #[.string ⟨n.toArray⟩, .int .i64 1, .int .i64 k, .int .i64 i, .string ⟨#[]⟩]] w (fun e w' => ∃ r, IsInts k i i ([] : List Val) r ∧ r.no.length ≤ 1 ∧ Gives w r e w') := by
  have HRR := Lib.hid hr
  clear hr
  have HKK := Lib.hid hk
  have hk2 : k ≠ 2 := by omega
  clear hk
  have hB0 : Below w.heap.size w ((w.alloc (.cells #[.string ⟨n.toArray⟩, .int .i64 1, .int .i64 k, .int .i64 i, .string ⟨#[]⟩] 40)).alloc (.cells #[.int .i64 0, .int .i64 0, .int .i64 0, .string ⟨#[]⟩, .string ⟨#[]⟩, .bool false, .slice none 0 0] 29)) := (gr2 w (.cells #[.string ⟨n.toArray⟩, .int .i64 1, .int .i64 k, .int .i64 i, .string ⟨#[]⟩] 40) (.cells #[.int .i64 0, .int .i64 0, .int .i64 0, .string ⟨#[]⟩, .string ⟨#[]⟩, .bool false, .slice none 0 0] 29)).below
  have hP0 := (Blk.new w 40 #[.string ⟨n.toArray⟩, .int .i64 1, .int .i64 k, .int .i64 i, .string ⟨#[]⟩]).alloc (.cells #[.int .i64 0, .int .i64 0, .int .i64 0, .string ⟨#[]⟩, .string ⟨#[]⟩, .bool false, .slice none 0 0] 29)
  have hY0 := Blk.new (w.alloc (.cells #[.string ⟨n.toArray⟩, .int .i64 1, .int .i64 k, .int .i64 i, .string ⟨#[]⟩] 40)) 29 #[.int .i64 0, .int .i64 0, .int .i64 0, .string ⟨#[]⟩, .string ⟨#[]⟩, .bool false, .slice none 0 0]
  rw [show (w.alloc (.cells #[.string ⟨n.toArray⟩, .int .i64 1, .int .i64 k, .int .i64 i, .string ⟨#[]⟩] 40)).heap.size = w.heap.size + 1 by simp] at hY0
  have hs0 : w.heap.size + 2 ≤ ((w.alloc (.cells #[.string ⟨n.toArray⟩, .int .i64 1, .int .i64 k, .int .i64 i, .string ⟨#[]⟩] 40)).alloc (.cells #[.int .i64 0, .int .i64 0, .int .i64 0, .string ⟨#[]⟩, .string ⟨#[]⟩, .bool false, .slice none 0 0] 29)).heap.size := by simp
  go_enter Try.func28, Try.ntmps28
  go_wp2_with fail
  generalize ((w.alloc (.cells #[.string ⟨n.toArray⟩, .int .i64 1, .int .i64 k, .int .i64 i, .string ⟨#[]⟩] 40)).alloc (.cells #[.int .i64 0, .int .i64 0, .int .i64 0, .string ⟨#[]⟩, .string ⟨#[]⟩, .bool false, .slice none 0 0] 29)) = w0 at *
  refine (pright_is n 1 k i [] w0 hn (by simp) true HRR.out).mono ?_
  rintro e w1 ⟨rfl, hb1⟩
  have hP1 := Blk.below hP0 hb1 hP0.lt
  have hY1 := Blk.below hY0 hb1 hY0.lt
  have hB1 := below_next hB0 (Nat.le_refl _) hb1
  have hs1 : w.heap.size + 2 ≤ w1.heap.size := Nat.le_trans hs0 (hb1).size
  clear hP0 hY0 hB0
  obtain ⟨p0, p1, p2, p3, p4, _⟩ := blk5 hP1
  have hl := hP1.lt
  go_wp2_with fail
  clear p0 p1 p2 p3 p4 hl hb1
  refine (wholeN_at k w1 HKK.out).mono ?_
  rintro e w2 ⟨rfl, hb2⟩
  have hP2 := Blk.below hP1 hb2.below hP1.lt
  have hY2 := Blk.below hY1 hb2.below hY1.lt
  have hB2 := below_next hB1 (Nat.le_refl _) hb2.below
  have hs2 : w.heap.size + 2 ≤ w2.heap.size := Nat.le_trans hs1 (hb2.below).size
  clear hP1 hY1 hB1
  have hb3 : Below w2.heap.size w2 (w2.alloc (.cells #[.int .i64 k, .int .i64 (lowest k), .int .i64 (highest k), .string ⟨#[]⟩, .string ⟨#[]⟩, .bool false, .slice none 0 0] 29)) := (Below.refl _ _).alloc (Nat.le_refl _) _
  have hV3 : Blk (w2.alloc (.cells #[.int .i64 k, .int .i64 (lowest k), .int .i64 (highest k), .string ⟨#[]⟩, .string ⟨#[]⟩, .bool false, .slice none 0 0] 29)) w2.heap.size 29 #[.int .i64 k, .int .i64 (lowest k), .int .i64 (highest k), .string ⟨#[]⟩, .string ⟨#[]⟩, .bool false, .slice none 0 0] := Blk.new _ _ _
  have hP3 := Blk.below hP2 hb3 hP2.lt
  have hY3 := Blk.below hY2 hb3 hY2.lt
  have hB3 := below_next hB2 (Nat.le_refl _) hb3
  have hs3 := Nat.le_trans hs2 hb3.size
  have hVl : w.heap.size + 2 ≤ w2.heap.size := hs2
  have hl := hP2.lt
  obtain ⟨p0, p1, p2, p3, p4, _⟩ := blk5 hP2
  go_wp2_with fail
  clear p0 p1 p2 p3 p4 hl hP2 hY2 hB2 hs2 hb2 hb3
  generalize w2.alloc (.cells #[.int .i64 k, .int .i64 (lowest k), .int .i64 (highest k), .string ⟨#[]⟩, .string ⟨#[]⟩, .bool false, .slice none 0 0] 29) = w3 at *
  generalize w2.heap.size = V at *
  have hS0 : Blk w3.drew w.heap.size 40 #[.string ⟨n.toArray⟩, .int .i64 1, .int .i64 k, .int .i64 i, .string ⟨#[]⟩] := hP3
  refine wp_region_held_drew (S := fun w' => Blk w' w.heap.size 40 #[.string ⟨n.toArray⟩, .int .i64 1, .int .i64 k, .int .i64 i, .string ⟨#[]⟩]) (by kernel_rfl) hS0 (fun _ => ?_)
  refine wpAnyH_yes (i := 1) (d := 21) (v := ?_) rfl rfl (by kernel_rfl) (by kernel_rfl) (by kernel_rfl) (fun _ _ _ h => h) (by rfl) ?_ hS0 ?_
  rotate_left
  · intro w' hSw; obtain ⟨r0, r1, r2, r3, r4, _⟩ := blk5 hSw; go_simp <;> with_reducible rfl
  simp only [Act.put, List.setIfInBounds_toArray, List.set_cons_zero, List.set_cons_succ]
  refine wpAnyH_yes (i := 2) (d := 22) (v := ?_) rfl rfl (by kernel_rfl) (by kernel_rfl) (by kernel_rfl) (fun _ _ _ h => h) (by rfl) ?_ hS0 ?_
  rotate_left
  · intro w' hSw; obtain ⟨r0, r1, r2, r3, r4, _⟩ := blk5 hSw; go_simp <;> with_reducible rfl
  simp only [Act.put, List.setIfInBounds_toArray, List.set_cons_zero, List.set_cons_succ]
  refine wpAnyH_yes (i := 4) (d := 24) (v := ?_) rfl rfl (by kernel_rfl) (by kernel_rfl) (by kernel_rfl) (fun _ _ _ h => h) (by rfl) ?_ hS0 ?_
  rotate_left
  · intro w' hSw; obtain ⟨r0, r1, r2, r3, r4, _⟩ := blk5 hSw; go_simp <;> with_reducible rfl
  simp only [Act.put, List.setIfInBounds_toArray, List.set_cons_zero, List.set_cons_succ]
  refine wpAnyH_yes (i := 5) (d := 25) (v := ?_) rfl rfl (by kernel_rfl) (by kernel_rfl) (by kernel_rfl) (fun _ _ _ h => h) (by rfl) ?_ hS0 ?_
  rotate_left
  · intro w' hSw; obtain ⟨r0, r1, r2, r3, r4, _⟩ := blk5 hSw; go_simp <;> with_reducible rfl
  simp only [Act.put, List.setIfInBounds_toArray, List.set_cons_zero, List.set_cons_succ]
  obtain ⟨z0, z1, z2, z3, z4, z5, z6, m0, m1, m2, m3, m4, m5, m6⟩ := blk7 hV3
  refine wpAnyH_one (i := 0) (by kernel_rfl) rfl (by rfl) (fun Ka hKa => ?_)
  go_simp
  refine hKa.out _ _ hS0 ?_
  clear hKa Ka z0 z1 z2 z3 z4 z5 z6 m0 m1 m2 m3 m4 m5 m6
  have hP3' : Blk w3.drew w.heap.size 40 #[.string ⟨n.toArray⟩, .int .i64 1, .int .i64 k, .int .i64 i, .string ⟨#[]⟩] := hP3
  have hY3' : Blk w3.drew (w.heap.size + 1) 29 #[.int .i64 0, .int .i64 0, .int .i64 0, .string ⟨#[]⟩, .string ⟨#[]⟩, .bool false, .slice none 0 0] := hY3
  have hV3' : Blk w3.drew V 29 #[.int .i64 k, .int .i64 (lowest k), .int .i64 (highest k), .string ⟨#[]⟩, .string ⟨#[]⟩, .bool false, .slice none 0 0] := hV3
  have hB3' : Below w.heap.size w w3.drew := hB3.drew
  have hs3' : w.heap.size + 2 ≤ w3.drew.heap.size := hs3
  clear hP3 hY3 hV3 hB3 hs3 hS0
  generalize w3.drew = w4 at *
  refine wpAnyH_one (i := 3) (by kernel_rfl) rfl (by rfl) (fun Ka hKa => ?_)
  go_simp
  with_reducible refine (begin_num k (lowest k) (highest k) [] [] false none 0 0 k i [] _ hk2).mono ?_
  rintro e w6 ⟨rfl, hb6⟩
  have hP6 := Blk.below hP3' hb6.below hP3'.lt
  have hY6 := Blk.below hY3' hb6.below hY3'.lt
  have hB6 := below_next hB3' (Nat.le_refl _) hb6.below
  have hs6 : w.heap.size + 2 ≤ w6.heap.size := Nat.le_trans hs3' (hb6.below).size
  have hV6 := Blk.below hV3' hb6.below hV3'.lt
  clear hP3' hY3' hB3' hV3'
  go_wp2_with fail
  refine hKa.out _ _ hP6 ?_
  clear hKa Ka hb6
  refine wpAnyH_one (i := 6) (by kernel_rfl) rfl (by rfl) (fun Ka hKa => ?_)
  go_simp
  with_reducible refine (end_num k i (highest k) [] [] false none 0 0 k i [] _ hk2).mono ?_
  rintro e w7 ⟨rfl, hb7⟩
  have hP7 := Blk.below hP6 hb7.below hP6.lt
  have hY7 := Blk.below hY6 hb7.below hY6.lt
  have hB7 := below_next hB6 (Nat.le_refl _) hb7.below
  have hs7 : w.heap.size + 2 ≤ w7.heap.size := Nat.le_trans hs6 (hb7.below).size
  have hV7 := Blk.below hV6 hb7.below hV6.lt
  clear hP6 hY6 hB6 hV6
  go_wp2_with fail
  refine hKa.out _ _ hP7 ?_
  clear hKa Ka hb7
  refine wpAnyH_one (i := 7) (by kernel_rfl) rfl (by rfl) (fun Ka hKa => ?_)
  obtain ⟨z0, z1, z2, z3, z4, z5, z6, m0, m1, m2, m3, m4, m5, m6⟩ := blk7 hV7
  have hl := hV7.lt
  go_simp
  have hP8 : Blk (((((((w7.setCell ⟨V, 0, none⟩ (.int .i64 k)).setCell ⟨V, 1, none⟩ (.int .i64 i)).setCell ⟨V, 2, none⟩ (.int .i64 i)).setCell ⟨V, 3, none⟩ (.string ⟨#[]⟩)).setCell ⟨V, 4, none⟩ (.string ⟨#[]⟩)).setCell ⟨V, 5, none⟩ (.bool false)).setCell ⟨V, 6, none⟩ (.slice none 0 0)) w.heap.size 40 #[.string ⟨n.toArray⟩, .int .i64 1, .int .i64 k, .int .i64 i, .string ⟨#[]⟩] := Blk.far7 hP7 (by omega) _ _ _ _ _ _ _
  have hY8 : Blk (((((((w7.setCell ⟨V, 0, none⟩ (.int .i64 k)).setCell ⟨V, 1, none⟩ (.int .i64 i)).setCell ⟨V, 2, none⟩ (.int .i64 i)).setCell ⟨V, 3, none⟩ (.string ⟨#[]⟩)).setCell ⟨V, 4, none⟩ (.string ⟨#[]⟩)).setCell ⟨V, 5, none⟩ (.bool false)).setCell ⟨V, 6, none⟩ (.slice none 0 0)) (w.heap.size + 1) 29 #[.int .i64 0, .int .i64 0, .int .i64 0, .string ⟨#[]⟩, .string ⟨#[]⟩, .bool false, .slice none 0 0] := Blk.far7 hY7 (by omega) _ _ _ _ _ _ _
  have hV8 : Blk (((((((w7.setCell ⟨V, 0, none⟩ (.int .i64 k)).setCell ⟨V, 1, none⟩ (.int .i64 i)).setCell ⟨V, 2, none⟩ (.int .i64 i)).setCell ⟨V, 3, none⟩ (.string ⟨#[]⟩)).setCell ⟨V, 4, none⟩ (.string ⟨#[]⟩)).setCell ⟨V, 5, none⟩ (.bool false)).setCell ⟨V, 6, none⟩ (.slice none 0 0)) V 29 #[.int .i64 k, .int .i64 i, .int .i64 i, .string ⟨#[]⟩, .string ⟨#[]⟩, .bool false, .slice none 0 0] := Blk.put7 hV7 _ _ _ _ _ _ _
  have hB8 : Below w.heap.size w (((((((w7.setCell ⟨V, 0, none⟩ (.int .i64 k)).setCell ⟨V, 1, none⟩ (.int .i64 i)).setCell ⟨V, 2, none⟩ (.int .i64 i)).setCell ⟨V, 3, none⟩ (.string ⟨#[]⟩)).setCell ⟨V, 4, none⟩ (.string ⟨#[]⟩)).setCell ⟨V, 5, none⟩ (.bool false)).setCell ⟨V, 6, none⟩ (.slice none 0 0)) := below_put7 hB7 (by omega) _ _ _ _ _ _ _
  have hs8 : w.heap.size + 2 ≤ (((((((w7.setCell ⟨V, 0, none⟩ (.int .i64 k)).setCell ⟨V, 1, none⟩ (.int .i64 i)).setCell ⟨V, 2, none⟩ (.int .i64 i)).setCell ⟨V, 3, none⟩ (.string ⟨#[]⟩)).setCell ⟨V, 4, none⟩ (.string ⟨#[]⟩)).setCell ⟨V, 5, none⟩ (.bool false)).setCell ⟨V, 6, none⟩ (.slice none 0 0)).heap.size := by rw [size_put7]; omega
  refine hKa.out _ _ hP8 ?_
  clear hKa Ka z0 z1 z2 z3 z4 z5 z6 m0 m1 m2 m3 m4 m5 m6 hl hP7 hY7 hV7 hB7
  refine wpAnyH_done (by kernel_rfl) ?_ _
  generalize (((((((w7.setCell ⟨V, 0, none⟩ (.int .i64 k)).setCell ⟨V, 1, none⟩ (.int .i64 i)).setCell ⟨V, 2, none⟩ (.int .i64 i)).setCell ⟨V, 3, none⟩ (.string ⟨#[]⟩)).setCell ⟨V, 4, none⟩ (.string ⟨#[]⟩)).setCell ⟨V, 5, none⟩ (.bool false)).setCell ⟨V, 6, none⟩ (.slice none 0 0)) = w8 at *
  obtain ⟨p0, p1, p2, p3, p4, _⟩ := blk5 hP8
  have hl := hP8.lt
  go_wp2_with fail
  refine (shutsOut_at 1 w8 false rfl).mono ?_
  rintro e wz ⟨rfl, rfl⟩
  obtain ⟨z0, z1, z2, z3, z4, z5, z6, m0, m1, m2, m3, m4, m5, m6⟩ := blk7 hV8
  have hlV := hV8.lt
  have hOa : OwnW wz (w.heap.size + 2) (.slice none 0 0) ([] : List Val) := OwnK.none_ _ _
  go_wp2_with fail
  clear p0 p1 p2 p3 p4 z0 z1 z2 z3 z4 z5 z6 m0 m1 m2 m3 m4 m5 m6 hl
  have hYa := hY8
  have hBa := hB8
  have hsa := hs8
  have hVla := hlV
  clear hP8 hY8 hB8
  generalize wz = wa at *
  refine (trimN_at k i i none 0 0 wa (w.heap.size + 2) ([] : List Val) HKK.out hl1 hl2 (by simp) rfl (by omega) hOa hsa).mono ?_
  rintro e wb ⟨⟨rK, rlo, rhi, rf, rt, ro, rno⟩, A7, n7, c7, rfl, hl7, hn7, ho7, hb7, hP7⟩
  dsimp only at hl7 ho7
  have HL7 := Lib.hid hl7
  have HP7 := Lib.hid hP7
  have hYb := Blk.below hYa hb7 (by omega)
  have hBb : Below w.heap.size w wb := hBa.trans (hb7.mono (by omega))
  have hsb := hb7.size
  have hc7 : n7 ≤ c7 := by
    obtain ⟨_, _, e, h, _⟩ := OwnK.rd ho7
    injection e with e1 e2 e3
    omega
  obtain ⟨u0, u1, u2, u3, u4, u5, u6, q0, q1, q2, q3, q4, q5, q6⟩ := blk7 hYb
  have hg7 : w.heap.size + 1 < wb.heap.size := hYb.lt
  clear hb7 hYb hl7 hP7
  go_wp2_with fail
  refine bodyPost_ret (v := spF rK rlo rhi rf rt ro A7 n7 c7) (by simp [results, Try.results28, go_sem, u0, u1, u2, u3, u4, u5, u6]) rfl ?_
  exact ⟨⟨rK, rlo, rhi, rf, rt, ro, rno⟩, HP7.out, by show rno.length ≤ _; have := HL7.out; omega, A7, n7, c7, rfl, HL7.out, hc7, (OwnK.put7 ho7 (by omega) _ _ _ _ _ _ _).less (by omega), below_put7 hBb (by omega) _ _ _ _ _ _ _⟩
set_option maxRecDepth 100000 in
set_option maxHeartbeats 4000000 in
theorem of_N2 (n : List UInt8) (k i : Int) (hk : k = 1 ∨ k = 3) (_hl1 : lowest k ≤ i) (_hl2 : i ≤ highest k) (w : World) (hn : n.length ≤ 9223372036854775807) (hr : Preds.right n 2 k i [] = true) :
    Calls Try.prog 28 #[.agg #[.string ⟨n.toArray⟩, .int .i64 2, .int .i64 k, .int .i64 i, .string ⟨#[]⟩]] w (fun e w' => ∃ r, IsInts k (lowest k) (highest k) [(⟨k, i, []⟩ : Val)] r ∧ r.no.length ≤ 1 ∧ Gives w r e w') := by
  have HRR := Lib.hid hr
  clear hr
  have HKK := Lib.hid hk
  have hk2 : k ≠ 2 := by omega
  clear hk
  have hB0 : Below w.heap.size w ((w.alloc (.cells #[.string ⟨n.toArray⟩, .int .i64 2, .int .i64 k, .int .i64 i, .string ⟨#[]⟩] 40)).alloc (.cells #[.int .i64 0, .int .i64 0, .int .i64 0, .string ⟨#[]⟩, .string ⟨#[]⟩, .bool false, .slice none 0 0] 29)) := (gr2 w (.cells #[.string ⟨n.toArray⟩, .int .i64 2, .int .i64 k, .int .i64 i, .string ⟨#[]⟩] 40) (.cells #[.int .i64 0, .int .i64 0, .int .i64 0, .string ⟨#[]⟩, .string ⟨#[]⟩, .bool false, .slice none 0 0] 29)).below
  have hP0 := (Blk.new w 40 #[.string ⟨n.toArray⟩, .int .i64 2, .int .i64 k, .int .i64 i, .string ⟨#[]⟩]).alloc (.cells #[.int .i64 0, .int .i64 0, .int .i64 0, .string ⟨#[]⟩, .string ⟨#[]⟩, .bool false, .slice none 0 0] 29)
  have hY0 := Blk.new (w.alloc (.cells #[.string ⟨n.toArray⟩, .int .i64 2, .int .i64 k, .int .i64 i, .string ⟨#[]⟩] 40)) 29 #[.int .i64 0, .int .i64 0, .int .i64 0, .string ⟨#[]⟩, .string ⟨#[]⟩, .bool false, .slice none 0 0]
  rw [show (w.alloc (.cells #[.string ⟨n.toArray⟩, .int .i64 2, .int .i64 k, .int .i64 i, .string ⟨#[]⟩] 40)).heap.size = w.heap.size + 1 by simp] at hY0
  have hs0 : w.heap.size + 2 ≤ ((w.alloc (.cells #[.string ⟨n.toArray⟩, .int .i64 2, .int .i64 k, .int .i64 i, .string ⟨#[]⟩] 40)).alloc (.cells #[.int .i64 0, .int .i64 0, .int .i64 0, .string ⟨#[]⟩, .string ⟨#[]⟩, .bool false, .slice none 0 0] 29)).heap.size := by simp
  go_enter Try.func28, Try.ntmps28
  go_wp2_with fail
  generalize ((w.alloc (.cells #[.string ⟨n.toArray⟩, .int .i64 2, .int .i64 k, .int .i64 i, .string ⟨#[]⟩] 40)).alloc (.cells #[.int .i64 0, .int .i64 0, .int .i64 0, .string ⟨#[]⟩, .string ⟨#[]⟩, .bool false, .slice none 0 0] 29)) = w0 at *
  refine (pright_is n 2 k i [] w0 hn (by simp) true HRR.out).mono ?_
  rintro e w1 ⟨rfl, hb1⟩
  have hP1 := Blk.below hP0 hb1 hP0.lt
  have hY1 := Blk.below hY0 hb1 hY0.lt
  have hB1 := below_next hB0 (Nat.le_refl _) hb1
  have hs1 : w.heap.size + 2 ≤ w1.heap.size := Nat.le_trans hs0 (hb1).size
  clear hP0 hY0 hB0
  obtain ⟨p0, p1, p2, p3, p4, _⟩ := blk5 hP1
  have hl := hP1.lt
  go_wp2_with fail
  clear p0 p1 p2 p3 p4 hl hb1
  refine (wholeN_at k w1 HKK.out).mono ?_
  rintro e w2 ⟨rfl, hb2⟩
  have hP2 := Blk.below hP1 hb2.below hP1.lt
  have hY2 := Blk.below hY1 hb2.below hY1.lt
  have hB2 := below_next hB1 (Nat.le_refl _) hb2.below
  have hs2 : w.heap.size + 2 ≤ w2.heap.size := Nat.le_trans hs1 (hb2.below).size
  clear hP1 hY1 hB1
  have hb3 : Below w2.heap.size w2 (w2.alloc (.cells #[.int .i64 k, .int .i64 (lowest k), .int .i64 (highest k), .string ⟨#[]⟩, .string ⟨#[]⟩, .bool false, .slice none 0 0] 29)) := (Below.refl _ _).alloc (Nat.le_refl _) _
  have hV3 : Blk (w2.alloc (.cells #[.int .i64 k, .int .i64 (lowest k), .int .i64 (highest k), .string ⟨#[]⟩, .string ⟨#[]⟩, .bool false, .slice none 0 0] 29)) w2.heap.size 29 #[.int .i64 k, .int .i64 (lowest k), .int .i64 (highest k), .string ⟨#[]⟩, .string ⟨#[]⟩, .bool false, .slice none 0 0] := Blk.new _ _ _
  have hP3 := Blk.below hP2 hb3 hP2.lt
  have hY3 := Blk.below hY2 hb3 hY2.lt
  have hB3 := below_next hB2 (Nat.le_refl _) hb3
  have hs3 := Nat.le_trans hs2 hb3.size
  have hVl : w.heap.size + 2 ≤ w2.heap.size := hs2
  have hl := hP2.lt
  obtain ⟨p0, p1, p2, p3, p4, _⟩ := blk5 hP2
  go_wp2_with fail
  clear p0 p1 p2 p3 p4 hl hP2 hY2 hB2 hs2 hb2 hb3
  generalize w2.alloc (.cells #[.int .i64 k, .int .i64 (lowest k), .int .i64 (highest k), .string ⟨#[]⟩, .string ⟨#[]⟩, .bool false, .slice none 0 0] 29) = w3 at *
  generalize w2.heap.size = V at *
  obtain ⟨p0, p1, p2, p3, p4, _⟩ := blk5 hP3
  have hl := hP3.lt
  go_wp2_with fail
  refine (shutsOut_at 2 w3 true rfl).mono ?_
  rintro e wz ⟨rfl, rfl⟩
  obtain ⟨z0, z1, z2, z3, z4, z5, z6, m0, m1, m2, m3, m4, m5, m6⟩ := blk7 hV3
  have hlV := hV3.lt
  have hlw : w.heap.size < wz.heap.size := hl
  have hsc : (wz.setCell ⟨V, 6, none⟩ (.slice (some ⟨wz.heap.size, 0, none⟩) 1 1)).heap.size = wz.heap.size := by simp
  have hYa : Blk ((wz.setCell ⟨V, 6, none⟩ (.slice (some ⟨wz.heap.size, 0, none⟩) 1 1)).alloc (.cells #[.int .i64 k, .int .i64 i, .string ⟨#[]⟩] 24)) (w.heap.size + 1) 29 #[.int .i64 0, .int .i64 0, .int .i64 0, .string ⟨#[]⟩, .string ⟨#[]⟩, .bool false, .slice none 0 0] := (Blk.far hY3 (p := ⟨V, 6, none⟩) (by show w.heap.size + 1 ≠ V; omega) _).alloc _
  have hVa : Blk ((wz.setCell ⟨V, 6, none⟩ (.slice (some ⟨wz.heap.size, 0, none⟩) 1 1)).alloc (.cells #[.int .i64 k, .int .i64 i, .string ⟨#[]⟩] 24)) V 29 #[.int .i64 k, .int .i64 (lowest k), .int .i64 (highest k), .string ⟨#[]⟩, .string ⟨#[]⟩, .bool false, .slice (some ⟨wz.heap.size, 0, none⟩) 1 1] := by have h := Blk.put hV3 6 (.slice (some ⟨wz.heap.size, 0, none⟩) 1 1); simp at h; exact h.alloc _
  have hBa : Below w.heap.size w ((wz.setCell ⟨V, 6, none⟩ (.slice (some ⟨wz.heap.size, 0, none⟩) 1 1)).alloc (.cells #[.int .i64 k, .int .i64 i, .string ⟨#[]⟩] 24)) := (below_set hB3 (by omega)).alloc (by rw [hsc]; omega) _
  have hOa : OwnW ((wz.setCell ⟨V, 6, none⟩ (.slice (some ⟨wz.heap.size, 0, none⟩) 1 1)).alloc (.cells #[.int .i64 k, .int .i64 i, .string ⟨#[]⟩] 24)) (w.heap.size + 2) (.slice (some ⟨wz.heap.size, 0, none⟩) 1 1) [(⟨k, i, []⟩ : Val)] := by
    have h := own_lit (wz.setCell ⟨V, 6, none⟩ (.slice (some ⟨wz.heap.size, 0, none⟩) 1 1)) (w.heap.size + 2) (by rw [hsc]; omega) (⟨k, i, []⟩ : Val) rfl
    rw [hsc] at h
    exact h
  have hsa : w.heap.size + 2 ≤ ((wz.setCell ⟨V, 6, none⟩ (.slice (some ⟨wz.heap.size, 0, none⟩) 1 1)).alloc (.cells #[.int .i64 k, .int .i64 i, .string ⟨#[]⟩] 24)).heap.size := by simp; omega
  have hVla : V < ((wz.setCell ⟨V, 6, none⟩ (.slice (some ⟨wz.heap.size, 0, none⟩) 1 1)).alloc (.cells #[.int .i64 k, .int .i64 i, .string ⟨#[]⟩] 24)).heap.size := by simp; omega
  go_wp2_with fail
  clear p0 p1 p2 p3 p4 z0 z1 z2 z3 z4 z5 z6 m0 m1 m2 m3 m4 m5 m6 hl hlw hsc hP3 hY3 hV3 hB3
  generalize ((wz.setCell ⟨V, 6, none⟩ (.slice (some ⟨wz.heap.size, 0, none⟩) 1 1)).alloc (.cells #[.int .i64 k, .int .i64 i, .string ⟨#[]⟩] 24)) = wa at *
  generalize wz.heap.size = R at *
  refine (trimN_at k (lowest k) (highest k) (some ⟨R, 0, none⟩) 1 1 wa (w.heap.size + 2) [(⟨k, i, []⟩ : Val)] HKK.out (Int.le_refl _) (Int.le_refl _) (by simp) rfl (by omega) hOa hsa).mono ?_
  rintro e wb ⟨⟨rK, rlo, rhi, rf, rt, ro, rno⟩, A7, n7, c7, rfl, hl7, hn7, ho7, hb7, hP7⟩
  dsimp only at hl7 ho7
  have HL7 := Lib.hid hl7
  have HP7 := Lib.hid hP7
  have hYb := Blk.below hYa hb7 (by omega)
  have hBb : Below w.heap.size w wb := hBa.trans (hb7.mono (by omega))
  have hsb := hb7.size
  have hc7 : n7 ≤ c7 := by
    obtain ⟨_, _, e, h, _⟩ := OwnK.rd ho7
    injection e with e1 e2 e3
    omega
  obtain ⟨u0, u1, u2, u3, u4, u5, u6, q0, q1, q2, q3, q4, q5, q6⟩ := blk7 hYb
  have hg7 : w.heap.size + 1 < wb.heap.size := hYb.lt
  clear hb7 hYb hl7 hP7
  go_wp2_with fail
  refine bodyPost_ret (v := spF rK rlo rhi rf rt ro A7 n7 c7) (by simp [results, Try.results28, go_sem, u0, u1, u2, u3, u4, u5, u6]) rfl ?_
  exact ⟨⟨rK, rlo, rhi, rf, rt, ro, rno⟩, HP7.out, by show rno.length ≤ _; have := HL7.out; omega, A7, n7, c7, rfl, HL7.out, hc7, (OwnK.put7 ho7 (by omega) _ _ _ _ _ _ _).less (by omega), below_put7 hBb (by omega) _ _ _ _ _ _ _⟩
set_option maxRecDepth 100000 in
set_option maxHeartbeats 4000000 in
theorem of_N3 (n : List UInt8) (k i : Int) (hk : k = 1 ∨ k = 3) (_hl1 : lowest k ≤ i) (hl2 : i ≤ highest k) (w : World) (hn : n.length ≤ 9223372036854775807) (hr : Preds.right n 3 k i [] = true) :
    Calls Try.prog 28 #[.agg #[.string ⟨n.toArray⟩, .int .i64 3, .int .i64 k, .int .i64 i, .string ⟨#[]⟩]] w (fun e w' => ∃ r, IsInts k (lowest k) i [(⟨k, i, []⟩ : Val)] r ∧ r.no.length ≤ 1 ∧ Gives w r e w') := by
  have HRR := Lib.hid hr
  clear hr
  have HKK := Lib.hid hk
  have hk2 : k ≠ 2 := by omega
  clear hk
  have hB0 : Below w.heap.size w ((w.alloc (.cells #[.string ⟨n.toArray⟩, .int .i64 3, .int .i64 k, .int .i64 i, .string ⟨#[]⟩] 40)).alloc (.cells #[.int .i64 0, .int .i64 0, .int .i64 0, .string ⟨#[]⟩, .string ⟨#[]⟩, .bool false, .slice none 0 0] 29)) := (gr2 w (.cells #[.string ⟨n.toArray⟩, .int .i64 3, .int .i64 k, .int .i64 i, .string ⟨#[]⟩] 40) (.cells #[.int .i64 0, .int .i64 0, .int .i64 0, .string ⟨#[]⟩, .string ⟨#[]⟩, .bool false, .slice none 0 0] 29)).below
  have hP0 := (Blk.new w 40 #[.string ⟨n.toArray⟩, .int .i64 3, .int .i64 k, .int .i64 i, .string ⟨#[]⟩]).alloc (.cells #[.int .i64 0, .int .i64 0, .int .i64 0, .string ⟨#[]⟩, .string ⟨#[]⟩, .bool false, .slice none 0 0] 29)
  have hY0 := Blk.new (w.alloc (.cells #[.string ⟨n.toArray⟩, .int .i64 3, .int .i64 k, .int .i64 i, .string ⟨#[]⟩] 40)) 29 #[.int .i64 0, .int .i64 0, .int .i64 0, .string ⟨#[]⟩, .string ⟨#[]⟩, .bool false, .slice none 0 0]
  rw [show (w.alloc (.cells #[.string ⟨n.toArray⟩, .int .i64 3, .int .i64 k, .int .i64 i, .string ⟨#[]⟩] 40)).heap.size = w.heap.size + 1 by simp] at hY0
  have hs0 : w.heap.size + 2 ≤ ((w.alloc (.cells #[.string ⟨n.toArray⟩, .int .i64 3, .int .i64 k, .int .i64 i, .string ⟨#[]⟩] 40)).alloc (.cells #[.int .i64 0, .int .i64 0, .int .i64 0, .string ⟨#[]⟩, .string ⟨#[]⟩, .bool false, .slice none 0 0] 29)).heap.size := by simp
  go_enter Try.func28, Try.ntmps28
  go_wp2_with fail
  generalize ((w.alloc (.cells #[.string ⟨n.toArray⟩, .int .i64 3, .int .i64 k, .int .i64 i, .string ⟨#[]⟩] 40)).alloc (.cells #[.int .i64 0, .int .i64 0, .int .i64 0, .string ⟨#[]⟩, .string ⟨#[]⟩, .bool false, .slice none 0 0] 29)) = w0 at *
  refine (pright_is n 3 k i [] w0 hn (by simp) true HRR.out).mono ?_
  rintro e w1 ⟨rfl, hb1⟩
  have hP1 := Blk.below hP0 hb1 hP0.lt
  have hY1 := Blk.below hY0 hb1 hY0.lt
  have hB1 := below_next hB0 (Nat.le_refl _) hb1
  have hs1 : w.heap.size + 2 ≤ w1.heap.size := Nat.le_trans hs0 (hb1).size
  clear hP0 hY0 hB0
  obtain ⟨p0, p1, p2, p3, p4, _⟩ := blk5 hP1
  have hl := hP1.lt
  go_wp2_with fail
  clear p0 p1 p2 p3 p4 hl hb1
  refine (wholeN_at k w1 HKK.out).mono ?_
  rintro e w2 ⟨rfl, hb2⟩
  have hP2 := Blk.below hP1 hb2.below hP1.lt
  have hY2 := Blk.below hY1 hb2.below hY1.lt
  have hB2 := below_next hB1 (Nat.le_refl _) hb2.below
  have hs2 : w.heap.size + 2 ≤ w2.heap.size := Nat.le_trans hs1 (hb2.below).size
  clear hP1 hY1 hB1
  have hb3 : Below w2.heap.size w2 (w2.alloc (.cells #[.int .i64 k, .int .i64 (lowest k), .int .i64 (highest k), .string ⟨#[]⟩, .string ⟨#[]⟩, .bool false, .slice none 0 0] 29)) := (Below.refl _ _).alloc (Nat.le_refl _) _
  have hV3 : Blk (w2.alloc (.cells #[.int .i64 k, .int .i64 (lowest k), .int .i64 (highest k), .string ⟨#[]⟩, .string ⟨#[]⟩, .bool false, .slice none 0 0] 29)) w2.heap.size 29 #[.int .i64 k, .int .i64 (lowest k), .int .i64 (highest k), .string ⟨#[]⟩, .string ⟨#[]⟩, .bool false, .slice none 0 0] := Blk.new _ _ _
  have hP3 := Blk.below hP2 hb3 hP2.lt
  have hY3 := Blk.below hY2 hb3 hY2.lt
  have hB3 := below_next hB2 (Nat.le_refl _) hb3
  have hs3 := Nat.le_trans hs2 hb3.size
  have hVl : w.heap.size + 2 ≤ w2.heap.size := hs2
  have hl := hP2.lt
  obtain ⟨p0, p1, p2, p3, p4, _⟩ := blk5 hP2
  go_wp2_with fail
  clear p0 p1 p2 p3 p4 hl hP2 hY2 hB2 hs2 hb2 hb3
  generalize w2.alloc (.cells #[.int .i64 k, .int .i64 (lowest k), .int .i64 (highest k), .string ⟨#[]⟩, .string ⟨#[]⟩, .bool false, .slice none 0 0] 29) = w3 at *
  generalize w2.heap.size = V at *
  refine (end_num k (lowest k) (highest k) [] [] false none 0 0 k i [] w3 hk2).mono ?_
  rintro e w4 ⟨rfl, hb4⟩
  have hP4 := Blk.below hP3 hb4.below hP3.lt
  have hY4 := Blk.below hY3 hb4.below hY3.lt
  have hB4 := below_next hB3 (Nat.le_refl _) hb4.below
  have hs4 : w.heap.size + 2 ≤ w4.heap.size := Nat.le_trans hs3 (hb4.below).size
  have hV4 := Blk.below hV3 hb4.below hV3.lt
  clear hP3 hY3 hB3 hV3
  obtain ⟨z0, z1, z2, z3, z4, z5, z6, m0, m1, m2, m3, m4, m5, m6⟩ := blk7 hV4
  obtain ⟨p0, p1, p2, p3, p4, _⟩ := blk5 hP4
  have hl := hV4.lt
  have hlp := hP4.lt
  have hne1 : ¬ w.heap.size = V := by omega
  have hne2 : ¬ V = w.heap.size := by omega
  have hP5 : Blk (((((((w4.setCell ⟨V, 0, none⟩ (.int .i64 k)).setCell ⟨V, 1, none⟩ (.int .i64 (lowest k))).setCell ⟨V, 2, none⟩ (.int .i64 i)).setCell ⟨V, 3, none⟩ (.string ⟨#[]⟩)).setCell ⟨V, 4, none⟩ (.string ⟨#[]⟩)).setCell ⟨V, 5, none⟩ (.bool false)).setCell ⟨V, 6, none⟩ (.slice none 0 0)) w.heap.size 40 #[.string ⟨n.toArray⟩, .int .i64 3, .int .i64 k, .int .i64 i, .string ⟨#[]⟩] := Blk.far7 hP4 (by omega) _ _ _ _ _ _ _
  have hY5 : Blk (((((((w4.setCell ⟨V, 0, none⟩ (.int .i64 k)).setCell ⟨V, 1, none⟩ (.int .i64 (lowest k))).setCell ⟨V, 2, none⟩ (.int .i64 i)).setCell ⟨V, 3, none⟩ (.string ⟨#[]⟩)).setCell ⟨V, 4, none⟩ (.string ⟨#[]⟩)).setCell ⟨V, 5, none⟩ (.bool false)).setCell ⟨V, 6, none⟩ (.slice none 0 0)) (w.heap.size + 1) 29 #[.int .i64 0, .int .i64 0, .int .i64 0, .string ⟨#[]⟩, .string ⟨#[]⟩, .bool false, .slice none 0 0] := Blk.far7 hY4 (by omega) _ _ _ _ _ _ _
  have hV5 : Blk (((((((w4.setCell ⟨V, 0, none⟩ (.int .i64 k)).setCell ⟨V, 1, none⟩ (.int .i64 (lowest k))).setCell ⟨V, 2, none⟩ (.int .i64 i)).setCell ⟨V, 3, none⟩ (.string ⟨#[]⟩)).setCell ⟨V, 4, none⟩ (.string ⟨#[]⟩)).setCell ⟨V, 5, none⟩ (.bool false)).setCell ⟨V, 6, none⟩ (.slice none 0 0)) V 29 #[.int .i64 k, .int .i64 (lowest k), .int .i64 i, .string ⟨#[]⟩, .string ⟨#[]⟩, .bool false, .slice none 0 0] := Blk.put7 hV4 _ _ _ _ _ _ _
  have hB5 : Below w.heap.size w (((((((w4.setCell ⟨V, 0, none⟩ (.int .i64 k)).setCell ⟨V, 1, none⟩ (.int .i64 (lowest k))).setCell ⟨V, 2, none⟩ (.int .i64 i)).setCell ⟨V, 3, none⟩ (.string ⟨#[]⟩)).setCell ⟨V, 4, none⟩ (.string ⟨#[]⟩)).setCell ⟨V, 5, none⟩ (.bool false)).setCell ⟨V, 6, none⟩ (.slice none 0 0)) := below_put7 hB4 (by omega) _ _ _ _ _ _ _
  have hs5 : w.heap.size + 2 ≤ (((((((w4.setCell ⟨V, 0, none⟩ (.int .i64 k)).setCell ⟨V, 1, none⟩ (.int .i64 (lowest k))).setCell ⟨V, 2, none⟩ (.int .i64 i)).setCell ⟨V, 3, none⟩ (.string ⟨#[]⟩)).setCell ⟨V, 4, none⟩ (.string ⟨#[]⟩)).setCell ⟨V, 5, none⟩ (.bool false)).setCell ⟨V, 6, none⟩ (.slice none 0 0)).heap.size := by rw [size_put7]; omega
  go_wp2_with fail
  clear z0 z1 z2 z3 z4 z5 z6 m0 m1 m2 m3 m4 m5 m6 p0 p1 p2 p3 p4 hl hlp hP4 hY4 hV4 hB4 hb4
  generalize (((((((w4.setCell ⟨V, 0, none⟩ (.int .i64 k)).setCell ⟨V, 1, none⟩ (.int .i64 (lowest k))).setCell ⟨V, 2, none⟩ (.int .i64 i)).setCell ⟨V, 3, none⟩ (.string ⟨#[]⟩)).setCell ⟨V, 4, none⟩ (.string ⟨#[]⟩)).setCell ⟨V, 5, none⟩ (.bool false)).setCell ⟨V, 6, none⟩ (.slice none 0 0)) = w5 at *
  obtain ⟨p0, p1, p2, p3, p4, _⟩ := blk5 hP5
  have hl := hP5.lt
  refine (shutsOut_at 3 w5 true rfl).mono ?_
  rintro e wz ⟨rfl, rfl⟩
  obtain ⟨z0, z1, z2, z3, z4, z5, z6, m0, m1, m2, m3, m4, m5, m6⟩ := blk7 hV5
  have hlV := hV5.lt
  have hlw : w.heap.size < wz.heap.size := hl
  have hsc : (wz.setCell ⟨V, 6, none⟩ (.slice (some ⟨wz.heap.size, 0, none⟩) 1 1)).heap.size = wz.heap.size := by simp
  have hYa : Blk ((wz.setCell ⟨V, 6, none⟩ (.slice (some ⟨wz.heap.size, 0, none⟩) 1 1)).alloc (.cells #[.int .i64 k, .int .i64 i, .string ⟨#[]⟩] 24)) (w.heap.size + 1) 29 #[.int .i64 0, .int .i64 0, .int .i64 0, .string ⟨#[]⟩, .string ⟨#[]⟩, .bool false, .slice none 0 0] := (Blk.far hY5 (p := ⟨V, 6, none⟩) (by show w.heap.size + 1 ≠ V; omega) _).alloc _
  have hVa : Blk ((wz.setCell ⟨V, 6, none⟩ (.slice (some ⟨wz.heap.size, 0, none⟩) 1 1)).alloc (.cells #[.int .i64 k, .int .i64 i, .string ⟨#[]⟩] 24)) V 29 #[.int .i64 k, .int .i64 (lowest k), .int .i64 i, .string ⟨#[]⟩, .string ⟨#[]⟩, .bool false, .slice (some ⟨wz.heap.size, 0, none⟩) 1 1] := by have h := Blk.put hV5 6 (.slice (some ⟨wz.heap.size, 0, none⟩) 1 1); simp at h; exact h.alloc _
  have hBa : Below w.heap.size w ((wz.setCell ⟨V, 6, none⟩ (.slice (some ⟨wz.heap.size, 0, none⟩) 1 1)).alloc (.cells #[.int .i64 k, .int .i64 i, .string ⟨#[]⟩] 24)) := (below_set hB5 (by omega)).alloc (by rw [hsc]; omega) _
  have hOa : OwnW ((wz.setCell ⟨V, 6, none⟩ (.slice (some ⟨wz.heap.size, 0, none⟩) 1 1)).alloc (.cells #[.int .i64 k, .int .i64 i, .string ⟨#[]⟩] 24)) (w.heap.size + 2) (.slice (some ⟨wz.heap.size, 0, none⟩) 1 1) [(⟨k, i, []⟩ : Val)] := by
    have h := own_lit (wz.setCell ⟨V, 6, none⟩ (.slice (some ⟨wz.heap.size, 0, none⟩) 1 1)) (w.heap.size + 2) (by rw [hsc]; omega) (⟨k, i, []⟩ : Val) rfl
    rw [hsc] at h
    exact h
  have hsa : w.heap.size + 2 ≤ ((wz.setCell ⟨V, 6, none⟩ (.slice (some ⟨wz.heap.size, 0, none⟩) 1 1)).alloc (.cells #[.int .i64 k, .int .i64 i, .string ⟨#[]⟩] 24)).heap.size := by simp; omega
  have hVla : V < ((wz.setCell ⟨V, 6, none⟩ (.slice (some ⟨wz.heap.size, 0, none⟩) 1 1)).alloc (.cells #[.int .i64 k, .int .i64 i, .string ⟨#[]⟩] 24)).heap.size := by simp; omega
  go_wp2_with fail
  clear p0 p1 p2 p3 p4 z0 z1 z2 z3 z4 z5 z6 m0 m1 m2 m3 m4 m5 m6 hl hlw hsc hP5 hY5 hV5 hB5
  generalize ((wz.setCell ⟨V, 6, none⟩ (.slice (some ⟨wz.heap.size, 0, none⟩) 1 1)).alloc (.cells #[.int .i64 k, .int .i64 i, .string ⟨#[]⟩] 24)) = wa at *
  generalize wz.heap.size = R at *
  refine (trimN_at k (lowest k) i (some ⟨R, 0, none⟩) 1 1 wa (w.heap.size + 2) [(⟨k, i, []⟩ : Val)] HKK.out (Int.le_refl _) hl2 (by simp) rfl (by omega) hOa hsa).mono ?_
  rintro e wb ⟨⟨rK, rlo, rhi, rf, rt, ro, rno⟩, A7, n7, c7, rfl, hl7, hn7, ho7, hb7, hP7⟩
  dsimp only at hl7 ho7
  have HL7 := Lib.hid hl7
  have HP7 := Lib.hid hP7
  have hYb := Blk.below hYa hb7 (by omega)
  have hBb : Below w.heap.size w wb := hBa.trans (hb7.mono (by omega))
  have hsb := hb7.size
  have hc7 : n7 ≤ c7 := by
    obtain ⟨_, _, e, h, _⟩ := OwnK.rd ho7
    injection e with e1 e2 e3
    omega
  obtain ⟨u0, u1, u2, u3, u4, u5, u6, q0, q1, q2, q3, q4, q5, q6⟩ := blk7 hYb
  have hg7 : w.heap.size + 1 < wb.heap.size := hYb.lt
  clear hb7 hYb hl7 hP7
  go_wp2_with fail
  refine bodyPost_ret (v := spF rK rlo rhi rf rt ro A7 n7 c7) (by simp [results, Try.results28, go_sem, u0, u1, u2, u3, u4, u5, u6]) rfl ?_
  exact ⟨⟨rK, rlo, rhi, rf, rt, ro, rno⟩, HP7.out, by show rno.length ≤ _; have := HL7.out; omega, A7, n7, c7, rfl, HL7.out, hc7, (OwnK.put7 ho7 (by omega) _ _ _ _ _ _ _).less (by omega), below_put7 hBb (by omega) _ _ _ _ _ _ _⟩
set_option maxRecDepth 100000 in
set_option maxHeartbeats 4000000 in
theorem of_N4 (n : List UInt8) (k i : Int) (hk : k = 1 ∨ k = 3) (_hl1 : lowest k ≤ i) (hl2 : i ≤ highest k) (w : World) (hn : n.length ≤ 9223372036854775807) (hr : Preds.right n 4 k i [] = true) :
    Calls Try.prog 28 #[.agg #[.string ⟨n.toArray⟩, .int .i64 4, .int .i64 k, .int .i64 i, .string ⟨#[]⟩]] w (fun e w' => ∃ r, IsInts k (lowest k) i ([] : List Val) r ∧ r.no.length ≤ 1 ∧ Gives w r e w') := by
  have HRR := Lib.hid hr
  clear hr
  have HKK := Lib.hid hk
  have hk2 : k ≠ 2 := by omega
  clear hk
  have hB0 : Below w.heap.size w ((w.alloc (.cells #[.string ⟨n.toArray⟩, .int .i64 4, .int .i64 k, .int .i64 i, .string ⟨#[]⟩] 40)).alloc (.cells #[.int .i64 0, .int .i64 0, .int .i64 0, .string ⟨#[]⟩, .string ⟨#[]⟩, .bool false, .slice none 0 0] 29)) := (gr2 w (.cells #[.string ⟨n.toArray⟩, .int .i64 4, .int .i64 k, .int .i64 i, .string ⟨#[]⟩] 40) (.cells #[.int .i64 0, .int .i64 0, .int .i64 0, .string ⟨#[]⟩, .string ⟨#[]⟩, .bool false, .slice none 0 0] 29)).below
  have hP0 := (Blk.new w 40 #[.string ⟨n.toArray⟩, .int .i64 4, .int .i64 k, .int .i64 i, .string ⟨#[]⟩]).alloc (.cells #[.int .i64 0, .int .i64 0, .int .i64 0, .string ⟨#[]⟩, .string ⟨#[]⟩, .bool false, .slice none 0 0] 29)
  have hY0 := Blk.new (w.alloc (.cells #[.string ⟨n.toArray⟩, .int .i64 4, .int .i64 k, .int .i64 i, .string ⟨#[]⟩] 40)) 29 #[.int .i64 0, .int .i64 0, .int .i64 0, .string ⟨#[]⟩, .string ⟨#[]⟩, .bool false, .slice none 0 0]
  rw [show (w.alloc (.cells #[.string ⟨n.toArray⟩, .int .i64 4, .int .i64 k, .int .i64 i, .string ⟨#[]⟩] 40)).heap.size = w.heap.size + 1 by simp] at hY0
  have hs0 : w.heap.size + 2 ≤ ((w.alloc (.cells #[.string ⟨n.toArray⟩, .int .i64 4, .int .i64 k, .int .i64 i, .string ⟨#[]⟩] 40)).alloc (.cells #[.int .i64 0, .int .i64 0, .int .i64 0, .string ⟨#[]⟩, .string ⟨#[]⟩, .bool false, .slice none 0 0] 29)).heap.size := by simp
  go_enter Try.func28, Try.ntmps28
  go_wp2_with fail
  generalize ((w.alloc (.cells #[.string ⟨n.toArray⟩, .int .i64 4, .int .i64 k, .int .i64 i, .string ⟨#[]⟩] 40)).alloc (.cells #[.int .i64 0, .int .i64 0, .int .i64 0, .string ⟨#[]⟩, .string ⟨#[]⟩, .bool false, .slice none 0 0] 29)) = w0 at *
  refine (pright_is n 4 k i [] w0 hn (by simp) true HRR.out).mono ?_
  rintro e w1 ⟨rfl, hb1⟩
  have hP1 := Blk.below hP0 hb1 hP0.lt
  have hY1 := Blk.below hY0 hb1 hY0.lt
  have hB1 := below_next hB0 (Nat.le_refl _) hb1
  have hs1 : w.heap.size + 2 ≤ w1.heap.size := Nat.le_trans hs0 (hb1).size
  clear hP0 hY0 hB0
  obtain ⟨p0, p1, p2, p3, p4, _⟩ := blk5 hP1
  have hl := hP1.lt
  go_wp2_with fail
  clear p0 p1 p2 p3 p4 hl hb1
  refine (wholeN_at k w1 HKK.out).mono ?_
  rintro e w2 ⟨rfl, hb2⟩
  have hP2 := Blk.below hP1 hb2.below hP1.lt
  have hY2 := Blk.below hY1 hb2.below hY1.lt
  have hB2 := below_next hB1 (Nat.le_refl _) hb2.below
  have hs2 : w.heap.size + 2 ≤ w2.heap.size := Nat.le_trans hs1 (hb2.below).size
  clear hP1 hY1 hB1
  have hb3 : Below w2.heap.size w2 (w2.alloc (.cells #[.int .i64 k, .int .i64 (lowest k), .int .i64 (highest k), .string ⟨#[]⟩, .string ⟨#[]⟩, .bool false, .slice none 0 0] 29)) := (Below.refl _ _).alloc (Nat.le_refl _) _
  have hV3 : Blk (w2.alloc (.cells #[.int .i64 k, .int .i64 (lowest k), .int .i64 (highest k), .string ⟨#[]⟩, .string ⟨#[]⟩, .bool false, .slice none 0 0] 29)) w2.heap.size 29 #[.int .i64 k, .int .i64 (lowest k), .int .i64 (highest k), .string ⟨#[]⟩, .string ⟨#[]⟩, .bool false, .slice none 0 0] := Blk.new _ _ _
  have hP3 := Blk.below hP2 hb3 hP2.lt
  have hY3 := Blk.below hY2 hb3 hY2.lt
  have hB3 := below_next hB2 (Nat.le_refl _) hb3
  have hs3 := Nat.le_trans hs2 hb3.size
  have hVl : w.heap.size + 2 ≤ w2.heap.size := hs2
  have hl := hP2.lt
  obtain ⟨p0, p1, p2, p3, p4, _⟩ := blk5 hP2
  go_wp2_with fail
  clear p0 p1 p2 p3 p4 hl hP2 hY2 hB2 hs2 hb2 hb3
  generalize w2.alloc (.cells #[.int .i64 k, .int .i64 (lowest k), .int .i64 (highest k), .string ⟨#[]⟩, .string ⟨#[]⟩, .bool false, .slice none 0 0] 29) = w3 at *
  generalize w2.heap.size = V at *
  refine (end_num k (lowest k) (highest k) [] [] false none 0 0 k i [] w3 hk2).mono ?_
  rintro e w4 ⟨rfl, hb4⟩
  have hP4 := Blk.below hP3 hb4.below hP3.lt
  have hY4 := Blk.below hY3 hb4.below hY3.lt
  have hB4 := below_next hB3 (Nat.le_refl _) hb4.below
  have hs4 : w.heap.size + 2 ≤ w4.heap.size := Nat.le_trans hs3 (hb4.below).size
  have hV4 := Blk.below hV3 hb4.below hV3.lt
  clear hP3 hY3 hB3 hV3
  obtain ⟨z0, z1, z2, z3, z4, z5, z6, m0, m1, m2, m3, m4, m5, m6⟩ := blk7 hV4
  obtain ⟨p0, p1, p2, p3, p4, _⟩ := blk5 hP4
  have hl := hV4.lt
  have hlp := hP4.lt
  have hne1 : ¬ w.heap.size = V := by omega
  have hne2 : ¬ V = w.heap.size := by omega
  have hP5 : Blk (((((((w4.setCell ⟨V, 0, none⟩ (.int .i64 k)).setCell ⟨V, 1, none⟩ (.int .i64 (lowest k))).setCell ⟨V, 2, none⟩ (.int .i64 i)).setCell ⟨V, 3, none⟩ (.string ⟨#[]⟩)).setCell ⟨V, 4, none⟩ (.string ⟨#[]⟩)).setCell ⟨V, 5, none⟩ (.bool false)).setCell ⟨V, 6, none⟩ (.slice none 0 0)) w.heap.size 40 #[.string ⟨n.toArray⟩, .int .i64 4, .int .i64 k, .int .i64 i, .string ⟨#[]⟩] := Blk.far7 hP4 (by omega) _ _ _ _ _ _ _
  have hY5 : Blk (((((((w4.setCell ⟨V, 0, none⟩ (.int .i64 k)).setCell ⟨V, 1, none⟩ (.int .i64 (lowest k))).setCell ⟨V, 2, none⟩ (.int .i64 i)).setCell ⟨V, 3, none⟩ (.string ⟨#[]⟩)).setCell ⟨V, 4, none⟩ (.string ⟨#[]⟩)).setCell ⟨V, 5, none⟩ (.bool false)).setCell ⟨V, 6, none⟩ (.slice none 0 0)) (w.heap.size + 1) 29 #[.int .i64 0, .int .i64 0, .int .i64 0, .string ⟨#[]⟩, .string ⟨#[]⟩, .bool false, .slice none 0 0] := Blk.far7 hY4 (by omega) _ _ _ _ _ _ _
  have hV5 : Blk (((((((w4.setCell ⟨V, 0, none⟩ (.int .i64 k)).setCell ⟨V, 1, none⟩ (.int .i64 (lowest k))).setCell ⟨V, 2, none⟩ (.int .i64 i)).setCell ⟨V, 3, none⟩ (.string ⟨#[]⟩)).setCell ⟨V, 4, none⟩ (.string ⟨#[]⟩)).setCell ⟨V, 5, none⟩ (.bool false)).setCell ⟨V, 6, none⟩ (.slice none 0 0)) V 29 #[.int .i64 k, .int .i64 (lowest k), .int .i64 i, .string ⟨#[]⟩, .string ⟨#[]⟩, .bool false, .slice none 0 0] := Blk.put7 hV4 _ _ _ _ _ _ _
  have hB5 : Below w.heap.size w (((((((w4.setCell ⟨V, 0, none⟩ (.int .i64 k)).setCell ⟨V, 1, none⟩ (.int .i64 (lowest k))).setCell ⟨V, 2, none⟩ (.int .i64 i)).setCell ⟨V, 3, none⟩ (.string ⟨#[]⟩)).setCell ⟨V, 4, none⟩ (.string ⟨#[]⟩)).setCell ⟨V, 5, none⟩ (.bool false)).setCell ⟨V, 6, none⟩ (.slice none 0 0)) := below_put7 hB4 (by omega) _ _ _ _ _ _ _
  have hs5 : w.heap.size + 2 ≤ (((((((w4.setCell ⟨V, 0, none⟩ (.int .i64 k)).setCell ⟨V, 1, none⟩ (.int .i64 (lowest k))).setCell ⟨V, 2, none⟩ (.int .i64 i)).setCell ⟨V, 3, none⟩ (.string ⟨#[]⟩)).setCell ⟨V, 4, none⟩ (.string ⟨#[]⟩)).setCell ⟨V, 5, none⟩ (.bool false)).setCell ⟨V, 6, none⟩ (.slice none 0 0)).heap.size := by rw [size_put7]; omega
  go_wp2_with fail
  clear z0 z1 z2 z3 z4 z5 z6 m0 m1 m2 m3 m4 m5 m6 p0 p1 p2 p3 p4 hl hlp hP4 hY4 hV4 hB4 hb4
  generalize (((((((w4.setCell ⟨V, 0, none⟩ (.int .i64 k)).setCell ⟨V, 1, none⟩ (.int .i64 (lowest k))).setCell ⟨V, 2, none⟩ (.int .i64 i)).setCell ⟨V, 3, none⟩ (.string ⟨#[]⟩)).setCell ⟨V, 4, none⟩ (.string ⟨#[]⟩)).setCell ⟨V, 5, none⟩ (.bool false)).setCell ⟨V, 6, none⟩ (.slice none 0 0)) = w5 at *
  obtain ⟨p0, p1, p2, p3, p4, _⟩ := blk5 hP5
  have hl := hP5.lt
  refine (shutsOut_at 4 w5 false rfl).mono ?_
  rintro e wz ⟨rfl, rfl⟩
  obtain ⟨z0, z1, z2, z3, z4, z5, z6, m0, m1, m2, m3, m4, m5, m6⟩ := blk7 hV5
  have hlV := hV5.lt
  have hOa : OwnW wz (w.heap.size + 2) (.slice none 0 0) ([] : List Val) := OwnK.none_ _ _
  go_wp2_with fail
  clear p0 p1 p2 p3 p4 z0 z1 z2 z3 z4 z5 z6 m0 m1 m2 m3 m4 m5 m6 hl
  have hYa := hY5
  have hBa := hB5
  have hsa := hs5
  have hVla := hlV
  clear hP5 hY5 hB5
  generalize wz = wa at *
  refine (trimN_at k (lowest k) i none 0 0 wa (w.heap.size + 2) ([] : List Val) HKK.out (Int.le_refl _) hl2 (by simp) rfl (by omega) hOa hsa).mono ?_
  rintro e wb ⟨⟨rK, rlo, rhi, rf, rt, ro, rno⟩, A7, n7, c7, rfl, hl7, hn7, ho7, hb7, hP7⟩
  dsimp only at hl7 ho7
  have HL7 := Lib.hid hl7
  have HP7 := Lib.hid hP7
  have hYb := Blk.below hYa hb7 (by omega)
  have hBb : Below w.heap.size w wb := hBa.trans (hb7.mono (by omega))
  have hsb := hb7.size
  have hc7 : n7 ≤ c7 := by
    obtain ⟨_, _, e, h, _⟩ := OwnK.rd ho7
    injection e with e1 e2 e3
    omega
  obtain ⟨u0, u1, u2, u3, u4, u5, u6, q0, q1, q2, q3, q4, q5, q6⟩ := blk7 hYb
  have hg7 : w.heap.size + 1 < wb.heap.size := hYb.lt
  clear hb7 hYb hl7 hP7
  go_wp2_with fail
  refine bodyPost_ret (v := spF rK rlo rhi rf rt ro A7 n7 c7) (by simp [results, Try.results28, go_sem, u0, u1, u2, u3, u4, u5, u6]) rfl ?_
  exact ⟨⟨rK, rlo, rhi, rf, rt, ro, rno⟩, HP7.out, by show rno.length ≤ _; have := HL7.out; omega, A7, n7, c7, rfl, HL7.out, hc7, (OwnK.put7 ho7 (by omega) _ _ _ _ _ _ _).less (by omega), below_put7 hBb (by omega) _ _ _ _ _ _ _⟩
set_option maxRecDepth 100000 in
set_option maxHeartbeats 4000000 in
theorem of_N5 (n : List UInt8) (k i : Int) (hk : k = 1 ∨ k = 3) (hl1 : lowest k ≤ i) (_hl2 : i ≤ highest k) (w : World) (hn : n.length ≤ 9223372036854775807) (hr : Preds.right n 5 k i [] = true) :
    Calls Try.prog 28 #[.agg #[.string ⟨n.toArray⟩, .int .i64 5, .int .i64 k, .int .i64 i, .string ⟨#[]⟩]] w (fun e w' => ∃ r, IsInts k i (highest k) [(⟨k, i, []⟩ : Val)] r ∧ r.no.length ≤ 1 ∧ Gives w r e w') := by
  have HRR := Lib.hid hr
  clear hr
  have HKK := Lib.hid hk
  have hk2 : k ≠ 2 := by omega
  clear hk
  have hB0 : Below w.heap.size w ((w.alloc (.cells #[.string ⟨n.toArray⟩, .int .i64 5, .int .i64 k, .int .i64 i, .string ⟨#[]⟩] 40)).alloc (.cells #[.int .i64 0, .int .i64 0, .int .i64 0, .string ⟨#[]⟩, .string ⟨#[]⟩, .bool false, .slice none 0 0] 29)) := (gr2 w (.cells #[.string ⟨n.toArray⟩, .int .i64 5, .int .i64 k, .int .i64 i, .string ⟨#[]⟩] 40) (.cells #[.int .i64 0, .int .i64 0, .int .i64 0, .string ⟨#[]⟩, .string ⟨#[]⟩, .bool false, .slice none 0 0] 29)).below
  have hP0 := (Blk.new w 40 #[.string ⟨n.toArray⟩, .int .i64 5, .int .i64 k, .int .i64 i, .string ⟨#[]⟩]).alloc (.cells #[.int .i64 0, .int .i64 0, .int .i64 0, .string ⟨#[]⟩, .string ⟨#[]⟩, .bool false, .slice none 0 0] 29)
  have hY0 := Blk.new (w.alloc (.cells #[.string ⟨n.toArray⟩, .int .i64 5, .int .i64 k, .int .i64 i, .string ⟨#[]⟩] 40)) 29 #[.int .i64 0, .int .i64 0, .int .i64 0, .string ⟨#[]⟩, .string ⟨#[]⟩, .bool false, .slice none 0 0]
  rw [show (w.alloc (.cells #[.string ⟨n.toArray⟩, .int .i64 5, .int .i64 k, .int .i64 i, .string ⟨#[]⟩] 40)).heap.size = w.heap.size + 1 by simp] at hY0
  have hs0 : w.heap.size + 2 ≤ ((w.alloc (.cells #[.string ⟨n.toArray⟩, .int .i64 5, .int .i64 k, .int .i64 i, .string ⟨#[]⟩] 40)).alloc (.cells #[.int .i64 0, .int .i64 0, .int .i64 0, .string ⟨#[]⟩, .string ⟨#[]⟩, .bool false, .slice none 0 0] 29)).heap.size := by simp
  go_enter Try.func28, Try.ntmps28
  go_wp2_with fail
  generalize ((w.alloc (.cells #[.string ⟨n.toArray⟩, .int .i64 5, .int .i64 k, .int .i64 i, .string ⟨#[]⟩] 40)).alloc (.cells #[.int .i64 0, .int .i64 0, .int .i64 0, .string ⟨#[]⟩, .string ⟨#[]⟩, .bool false, .slice none 0 0] 29)) = w0 at *
  refine (pright_is n 5 k i [] w0 hn (by simp) true HRR.out).mono ?_
  rintro e w1 ⟨rfl, hb1⟩
  have hP1 := Blk.below hP0 hb1 hP0.lt
  have hY1 := Blk.below hY0 hb1 hY0.lt
  have hB1 := below_next hB0 (Nat.le_refl _) hb1
  have hs1 : w.heap.size + 2 ≤ w1.heap.size := Nat.le_trans hs0 (hb1).size
  clear hP0 hY0 hB0
  obtain ⟨p0, p1, p2, p3, p4, _⟩ := blk5 hP1
  have hl := hP1.lt
  go_wp2_with fail
  clear p0 p1 p2 p3 p4 hl hb1
  refine (wholeN_at k w1 HKK.out).mono ?_
  rintro e w2 ⟨rfl, hb2⟩
  have hP2 := Blk.below hP1 hb2.below hP1.lt
  have hY2 := Blk.below hY1 hb2.below hY1.lt
  have hB2 := below_next hB1 (Nat.le_refl _) hb2.below
  have hs2 : w.heap.size + 2 ≤ w2.heap.size := Nat.le_trans hs1 (hb2.below).size
  clear hP1 hY1 hB1
  have hb3 : Below w2.heap.size w2 (w2.alloc (.cells #[.int .i64 k, .int .i64 (lowest k), .int .i64 (highest k), .string ⟨#[]⟩, .string ⟨#[]⟩, .bool false, .slice none 0 0] 29)) := (Below.refl _ _).alloc (Nat.le_refl _) _
  have hV3 : Blk (w2.alloc (.cells #[.int .i64 k, .int .i64 (lowest k), .int .i64 (highest k), .string ⟨#[]⟩, .string ⟨#[]⟩, .bool false, .slice none 0 0] 29)) w2.heap.size 29 #[.int .i64 k, .int .i64 (lowest k), .int .i64 (highest k), .string ⟨#[]⟩, .string ⟨#[]⟩, .bool false, .slice none 0 0] := Blk.new _ _ _
  have hP3 := Blk.below hP2 hb3 hP2.lt
  have hY3 := Blk.below hY2 hb3 hY2.lt
  have hB3 := below_next hB2 (Nat.le_refl _) hb3
  have hs3 := Nat.le_trans hs2 hb3.size
  have hVl : w.heap.size + 2 ≤ w2.heap.size := hs2
  have hl := hP2.lt
  obtain ⟨p0, p1, p2, p3, p4, _⟩ := blk5 hP2
  go_wp2_with fail
  clear p0 p1 p2 p3 p4 hl hP2 hY2 hB2 hs2 hb2 hb3
  generalize w2.alloc (.cells #[.int .i64 k, .int .i64 (lowest k), .int .i64 (highest k), .string ⟨#[]⟩, .string ⟨#[]⟩, .bool false, .slice none 0 0] 29) = w3 at *
  generalize w2.heap.size = V at *
  refine (begin_num k (lowest k) (highest k) [] [] false none 0 0 k i [] w3 hk2).mono ?_
  rintro e w4 ⟨rfl, hb4⟩
  have hP4 := Blk.below hP3 hb4.below hP3.lt
  have hY4 := Blk.below hY3 hb4.below hY3.lt
  have hB4 := below_next hB3 (Nat.le_refl _) hb4.below
  have hs4 : w.heap.size + 2 ≤ w4.heap.size := Nat.le_trans hs3 (hb4.below).size
  have hV4 := Blk.below hV3 hb4.below hV3.lt
  clear hP3 hY3 hB3 hV3
  obtain ⟨z0, z1, z2, z3, z4, z5, z6, m0, m1, m2, m3, m4, m5, m6⟩ := blk7 hV4
  obtain ⟨p0, p1, p2, p3, p4, _⟩ := blk5 hP4
  have hl := hV4.lt
  have hlp := hP4.lt
  have hne1 : ¬ w.heap.size = V := by omega
  have hne2 : ¬ V = w.heap.size := by omega
  have hP5 : Blk (((((((w4.setCell ⟨V, 0, none⟩ (.int .i64 k)).setCell ⟨V, 1, none⟩ (.int .i64 i)).setCell ⟨V, 2, none⟩ (.int .i64 (highest k))).setCell ⟨V, 3, none⟩ (.string ⟨#[]⟩)).setCell ⟨V, 4, none⟩ (.string ⟨#[]⟩)).setCell ⟨V, 5, none⟩ (.bool false)).setCell ⟨V, 6, none⟩ (.slice none 0 0)) w.heap.size 40 #[.string ⟨n.toArray⟩, .int .i64 5, .int .i64 k, .int .i64 i, .string ⟨#[]⟩] := Blk.far7 hP4 (by omega) _ _ _ _ _ _ _
  have hY5 : Blk (((((((w4.setCell ⟨V, 0, none⟩ (.int .i64 k)).setCell ⟨V, 1, none⟩ (.int .i64 i)).setCell ⟨V, 2, none⟩ (.int .i64 (highest k))).setCell ⟨V, 3, none⟩ (.string ⟨#[]⟩)).setCell ⟨V, 4, none⟩ (.string ⟨#[]⟩)).setCell ⟨V, 5, none⟩ (.bool false)).setCell ⟨V, 6, none⟩ (.slice none 0 0)) (w.heap.size + 1) 29 #[.int .i64 0, .int .i64 0, .int .i64 0, .string ⟨#[]⟩, .string ⟨#[]⟩, .bool false, .slice none 0 0] := Blk.far7 hY4 (by omega) _ _ _ _ _ _ _
  have hV5 : Blk (((((((w4.setCell ⟨V, 0, none⟩ (.int .i64 k)).setCell ⟨V, 1, none⟩ (.int .i64 i)).setCell ⟨V, 2, none⟩ (.int .i64 (highest k))).setCell ⟨V, 3, none⟩ (.string ⟨#[]⟩)).setCell ⟨V, 4, none⟩ (.string ⟨#[]⟩)).setCell ⟨V, 5, none⟩ (.bool false)).setCell ⟨V, 6, none⟩ (.slice none 0 0)) V 29 #[.int .i64 k, .int .i64 i, .int .i64 (highest k), .string ⟨#[]⟩, .string ⟨#[]⟩, .bool false, .slice none 0 0] := Blk.put7 hV4 _ _ _ _ _ _ _
  have hB5 : Below w.heap.size w (((((((w4.setCell ⟨V, 0, none⟩ (.int .i64 k)).setCell ⟨V, 1, none⟩ (.int .i64 i)).setCell ⟨V, 2, none⟩ (.int .i64 (highest k))).setCell ⟨V, 3, none⟩ (.string ⟨#[]⟩)).setCell ⟨V, 4, none⟩ (.string ⟨#[]⟩)).setCell ⟨V, 5, none⟩ (.bool false)).setCell ⟨V, 6, none⟩ (.slice none 0 0)) := below_put7 hB4 (by omega) _ _ _ _ _ _ _
  have hs5 : w.heap.size + 2 ≤ (((((((w4.setCell ⟨V, 0, none⟩ (.int .i64 k)).setCell ⟨V, 1, none⟩ (.int .i64 i)).setCell ⟨V, 2, none⟩ (.int .i64 (highest k))).setCell ⟨V, 3, none⟩ (.string ⟨#[]⟩)).setCell ⟨V, 4, none⟩ (.string ⟨#[]⟩)).setCell ⟨V, 5, none⟩ (.bool false)).setCell ⟨V, 6, none⟩ (.slice none 0 0)).heap.size := by rw [size_put7]; omega
  go_wp2_with fail
  clear z0 z1 z2 z3 z4 z5 z6 m0 m1 m2 m3 m4 m5 m6 p0 p1 p2 p3 p4 hl hlp hP4 hY4 hV4 hB4 hb4
  generalize (((((((w4.setCell ⟨V, 0, none⟩ (.int .i64 k)).setCell ⟨V, 1, none⟩ (.int .i64 i)).setCell ⟨V, 2, none⟩ (.int .i64 (highest k))).setCell ⟨V, 3, none⟩ (.string ⟨#[]⟩)).setCell ⟨V, 4, none⟩ (.string ⟨#[]⟩)).setCell ⟨V, 5, none⟩ (.bool false)).setCell ⟨V, 6, none⟩ (.slice none 0 0)) = w5 at *
  obtain ⟨p0, p1, p2, p3, p4, _⟩ := blk5 hP5
  have hl := hP5.lt
  refine (shutsOut_at 5 w5 true rfl).mono ?_
  rintro e wz ⟨rfl, rfl⟩
  obtain ⟨z0, z1, z2, z3, z4, z5, z6, m0, m1, m2, m3, m4, m5, m6⟩ := blk7 hV5
  have hlV := hV5.lt
  have hlw : w.heap.size < wz.heap.size := hl
  have hsc : (wz.setCell ⟨V, 6, none⟩ (.slice (some ⟨wz.heap.size, 0, none⟩) 1 1)).heap.size = wz.heap.size := by simp
  have hYa : Blk ((wz.setCell ⟨V, 6, none⟩ (.slice (some ⟨wz.heap.size, 0, none⟩) 1 1)).alloc (.cells #[.int .i64 k, .int .i64 i, .string ⟨#[]⟩] 24)) (w.heap.size + 1) 29 #[.int .i64 0, .int .i64 0, .int .i64 0, .string ⟨#[]⟩, .string ⟨#[]⟩, .bool false, .slice none 0 0] := (Blk.far hY5 (p := ⟨V, 6, none⟩) (by show w.heap.size + 1 ≠ V; omega) _).alloc _
  have hVa : Blk ((wz.setCell ⟨V, 6, none⟩ (.slice (some ⟨wz.heap.size, 0, none⟩) 1 1)).alloc (.cells #[.int .i64 k, .int .i64 i, .string ⟨#[]⟩] 24)) V 29 #[.int .i64 k, .int .i64 i, .int .i64 (highest k), .string ⟨#[]⟩, .string ⟨#[]⟩, .bool false, .slice (some ⟨wz.heap.size, 0, none⟩) 1 1] := by have h := Blk.put hV5 6 (.slice (some ⟨wz.heap.size, 0, none⟩) 1 1); simp at h; exact h.alloc _
  have hBa : Below w.heap.size w ((wz.setCell ⟨V, 6, none⟩ (.slice (some ⟨wz.heap.size, 0, none⟩) 1 1)).alloc (.cells #[.int .i64 k, .int .i64 i, .string ⟨#[]⟩] 24)) := (below_set hB5 (by omega)).alloc (by rw [hsc]; omega) _
  have hOa : OwnW ((wz.setCell ⟨V, 6, none⟩ (.slice (some ⟨wz.heap.size, 0, none⟩) 1 1)).alloc (.cells #[.int .i64 k, .int .i64 i, .string ⟨#[]⟩] 24)) (w.heap.size + 2) (.slice (some ⟨wz.heap.size, 0, none⟩) 1 1) [(⟨k, i, []⟩ : Val)] := by
    have h := own_lit (wz.setCell ⟨V, 6, none⟩ (.slice (some ⟨wz.heap.size, 0, none⟩) 1 1)) (w.heap.size + 2) (by rw [hsc]; omega) (⟨k, i, []⟩ : Val) rfl
    rw [hsc] at h
    exact h
  have hsa : w.heap.size + 2 ≤ ((wz.setCell ⟨V, 6, none⟩ (.slice (some ⟨wz.heap.size, 0, none⟩) 1 1)).alloc (.cells #[.int .i64 k, .int .i64 i, .string ⟨#[]⟩] 24)).heap.size := by simp; omega
  have hVla : V < ((wz.setCell ⟨V, 6, none⟩ (.slice (some ⟨wz.heap.size, 0, none⟩) 1 1)).alloc (.cells #[.int .i64 k, .int .i64 i, .string ⟨#[]⟩] 24)).heap.size := by simp; omega
  go_wp2_with fail
  clear p0 p1 p2 p3 p4 z0 z1 z2 z3 z4 z5 z6 m0 m1 m2 m3 m4 m5 m6 hl hlw hsc hP5 hY5 hV5 hB5
  generalize ((wz.setCell ⟨V, 6, none⟩ (.slice (some ⟨wz.heap.size, 0, none⟩) 1 1)).alloc (.cells #[.int .i64 k, .int .i64 i, .string ⟨#[]⟩] 24)) = wa at *
  generalize wz.heap.size = R at *
  refine (trimN_at k i (highest k) (some ⟨R, 0, none⟩) 1 1 wa (w.heap.size + 2) [(⟨k, i, []⟩ : Val)] HKK.out hl1 (Int.le_refl _) (by simp) rfl (by omega) hOa hsa).mono ?_
  rintro e wb ⟨⟨rK, rlo, rhi, rf, rt, ro, rno⟩, A7, n7, c7, rfl, hl7, hn7, ho7, hb7, hP7⟩
  dsimp only at hl7 ho7
  have HL7 := Lib.hid hl7
  have HP7 := Lib.hid hP7
  have hYb := Blk.below hYa hb7 (by omega)
  have hBb : Below w.heap.size w wb := hBa.trans (hb7.mono (by omega))
  have hsb := hb7.size
  have hc7 : n7 ≤ c7 := by
    obtain ⟨_, _, e, h, _⟩ := OwnK.rd ho7
    injection e with e1 e2 e3
    omega
  obtain ⟨u0, u1, u2, u3, u4, u5, u6, q0, q1, q2, q3, q4, q5, q6⟩ := blk7 hYb
  have hg7 : w.heap.size + 1 < wb.heap.size := hYb.lt
  clear hb7 hYb hl7 hP7
  go_wp2_with fail
  refine bodyPost_ret (v := spF rK rlo rhi rf rt ro A7 n7 c7) (by simp [results, Try.results28, go_sem, u0, u1, u2, u3, u4, u5, u6]) rfl ?_
  exact ⟨⟨rK, rlo, rhi, rf, rt, ro, rno⟩, HP7.out, by show rno.length ≤ _; have := HL7.out; omega, A7, n7, c7, rfl, HL7.out, hc7, (OwnK.put7 ho7 (by omega) _ _ _ _ _ _ _).less (by omega), below_put7 hBb (by omega) _ _ _ _ _ _ _⟩
set_option maxRecDepth 100000 in
set_option maxHeartbeats 4000000 in
theorem of_N6 (n : List UInt8) (k i : Int) (hk : k = 1 ∨ k = 3) (hl1 : lowest k ≤ i) (_hl2 : i ≤ highest k) (w : World) (hn : n.length ≤ 9223372036854775807) (hr : Preds.right n 6 k i [] = true) :
    Calls Try.prog 28 #[.agg #[.string ⟨n.toArray⟩, .int .i64 6, .int .i64 k, .int .i64 i, .string ⟨#[]⟩]] w (fun e w' => ∃ r, IsInts k i (highest k) ([] : List Val) r ∧ r.no.length ≤ 1 ∧ Gives w r e w') := by
  have HRR := Lib.hid hr
  clear hr
  have HKK := Lib.hid hk
  have hk2 : k ≠ 2 := by omega
  clear hk
  have hB0 : Below w.heap.size w ((w.alloc (.cells #[.string ⟨n.toArray⟩, .int .i64 6, .int .i64 k, .int .i64 i, .string ⟨#[]⟩] 40)).alloc (.cells #[.int .i64 0, .int .i64 0, .int .i64 0, .string ⟨#[]⟩, .string ⟨#[]⟩, .bool false, .slice none 0 0] 29)) := (gr2 w (.cells #[.string ⟨n.toArray⟩, .int .i64 6, .int .i64 k, .int .i64 i, .string ⟨#[]⟩] 40) (.cells #[.int .i64 0, .int .i64 0, .int .i64 0, .string ⟨#[]⟩, .string ⟨#[]⟩, .bool false, .slice none 0 0] 29)).below
  have hP0 := (Blk.new w 40 #[.string ⟨n.toArray⟩, .int .i64 6, .int .i64 k, .int .i64 i, .string ⟨#[]⟩]).alloc (.cells #[.int .i64 0, .int .i64 0, .int .i64 0, .string ⟨#[]⟩, .string ⟨#[]⟩, .bool false, .slice none 0 0] 29)
  have hY0 := Blk.new (w.alloc (.cells #[.string ⟨n.toArray⟩, .int .i64 6, .int .i64 k, .int .i64 i, .string ⟨#[]⟩] 40)) 29 #[.int .i64 0, .int .i64 0, .int .i64 0, .string ⟨#[]⟩, .string ⟨#[]⟩, .bool false, .slice none 0 0]
  rw [show (w.alloc (.cells #[.string ⟨n.toArray⟩, .int .i64 6, .int .i64 k, .int .i64 i, .string ⟨#[]⟩] 40)).heap.size = w.heap.size + 1 by simp] at hY0
  have hs0 : w.heap.size + 2 ≤ ((w.alloc (.cells #[.string ⟨n.toArray⟩, .int .i64 6, .int .i64 k, .int .i64 i, .string ⟨#[]⟩] 40)).alloc (.cells #[.int .i64 0, .int .i64 0, .int .i64 0, .string ⟨#[]⟩, .string ⟨#[]⟩, .bool false, .slice none 0 0] 29)).heap.size := by simp
  go_enter Try.func28, Try.ntmps28
  go_wp2_with fail
  generalize ((w.alloc (.cells #[.string ⟨n.toArray⟩, .int .i64 6, .int .i64 k, .int .i64 i, .string ⟨#[]⟩] 40)).alloc (.cells #[.int .i64 0, .int .i64 0, .int .i64 0, .string ⟨#[]⟩, .string ⟨#[]⟩, .bool false, .slice none 0 0] 29)) = w0 at *
  refine (pright_is n 6 k i [] w0 hn (by simp) true HRR.out).mono ?_
  rintro e w1 ⟨rfl, hb1⟩
  have hP1 := Blk.below hP0 hb1 hP0.lt
  have hY1 := Blk.below hY0 hb1 hY0.lt
  have hB1 := below_next hB0 (Nat.le_refl _) hb1
  have hs1 : w.heap.size + 2 ≤ w1.heap.size := Nat.le_trans hs0 (hb1).size
  clear hP0 hY0 hB0
  obtain ⟨p0, p1, p2, p3, p4, _⟩ := blk5 hP1
  have hl := hP1.lt
  go_wp2_with fail
  clear p0 p1 p2 p3 p4 hl hb1
  refine (wholeN_at k w1 HKK.out).mono ?_
  rintro e w2 ⟨rfl, hb2⟩
  have hP2 := Blk.below hP1 hb2.below hP1.lt
  have hY2 := Blk.below hY1 hb2.below hY1.lt
  have hB2 := below_next hB1 (Nat.le_refl _) hb2.below
  have hs2 : w.heap.size + 2 ≤ w2.heap.size := Nat.le_trans hs1 (hb2.below).size
  clear hP1 hY1 hB1
  have hb3 : Below w2.heap.size w2 (w2.alloc (.cells #[.int .i64 k, .int .i64 (lowest k), .int .i64 (highest k), .string ⟨#[]⟩, .string ⟨#[]⟩, .bool false, .slice none 0 0] 29)) := (Below.refl _ _).alloc (Nat.le_refl _) _
  have hV3 : Blk (w2.alloc (.cells #[.int .i64 k, .int .i64 (lowest k), .int .i64 (highest k), .string ⟨#[]⟩, .string ⟨#[]⟩, .bool false, .slice none 0 0] 29)) w2.heap.size 29 #[.int .i64 k, .int .i64 (lowest k), .int .i64 (highest k), .string ⟨#[]⟩, .string ⟨#[]⟩, .bool false, .slice none 0 0] := Blk.new _ _ _
  have hP3 := Blk.below hP2 hb3 hP2.lt
  have hY3 := Blk.below hY2 hb3 hY2.lt
  have hB3 := below_next hB2 (Nat.le_refl _) hb3
  have hs3 := Nat.le_trans hs2 hb3.size
  have hVl : w.heap.size + 2 ≤ w2.heap.size := hs2
  have hl := hP2.lt
  obtain ⟨p0, p1, p2, p3, p4, _⟩ := blk5 hP2
  go_wp2_with fail
  clear p0 p1 p2 p3 p4 hl hP2 hY2 hB2 hs2 hb2 hb3
  generalize w2.alloc (.cells #[.int .i64 k, .int .i64 (lowest k), .int .i64 (highest k), .string ⟨#[]⟩, .string ⟨#[]⟩, .bool false, .slice none 0 0] 29) = w3 at *
  generalize w2.heap.size = V at *
  refine (begin_num k (lowest k) (highest k) [] [] false none 0 0 k i [] w3 hk2).mono ?_
  rintro e w4 ⟨rfl, hb4⟩
  have hP4 := Blk.below hP3 hb4.below hP3.lt
  have hY4 := Blk.below hY3 hb4.below hY3.lt
  have hB4 := below_next hB3 (Nat.le_refl _) hb4.below
  have hs4 : w.heap.size + 2 ≤ w4.heap.size := Nat.le_trans hs3 (hb4.below).size
  have hV4 := Blk.below hV3 hb4.below hV3.lt
  clear hP3 hY3 hB3 hV3
  obtain ⟨z0, z1, z2, z3, z4, z5, z6, m0, m1, m2, m3, m4, m5, m6⟩ := blk7 hV4
  obtain ⟨p0, p1, p2, p3, p4, _⟩ := blk5 hP4
  have hl := hV4.lt
  have hlp := hP4.lt
  have hne1 : ¬ w.heap.size = V := by omega
  have hne2 : ¬ V = w.heap.size := by omega
  have hP5 : Blk (((((((w4.setCell ⟨V, 0, none⟩ (.int .i64 k)).setCell ⟨V, 1, none⟩ (.int .i64 i)).setCell ⟨V, 2, none⟩ (.int .i64 (highest k))).setCell ⟨V, 3, none⟩ (.string ⟨#[]⟩)).setCell ⟨V, 4, none⟩ (.string ⟨#[]⟩)).setCell ⟨V, 5, none⟩ (.bool false)).setCell ⟨V, 6, none⟩ (.slice none 0 0)) w.heap.size 40 #[.string ⟨n.toArray⟩, .int .i64 6, .int .i64 k, .int .i64 i, .string ⟨#[]⟩] := Blk.far7 hP4 (by omega) _ _ _ _ _ _ _
  have hY5 : Blk (((((((w4.setCell ⟨V, 0, none⟩ (.int .i64 k)).setCell ⟨V, 1, none⟩ (.int .i64 i)).setCell ⟨V, 2, none⟩ (.int .i64 (highest k))).setCell ⟨V, 3, none⟩ (.string ⟨#[]⟩)).setCell ⟨V, 4, none⟩ (.string ⟨#[]⟩)).setCell ⟨V, 5, none⟩ (.bool false)).setCell ⟨V, 6, none⟩ (.slice none 0 0)) (w.heap.size + 1) 29 #[.int .i64 0, .int .i64 0, .int .i64 0, .string ⟨#[]⟩, .string ⟨#[]⟩, .bool false, .slice none 0 0] := Blk.far7 hY4 (by omega) _ _ _ _ _ _ _
  have hV5 : Blk (((((((w4.setCell ⟨V, 0, none⟩ (.int .i64 k)).setCell ⟨V, 1, none⟩ (.int .i64 i)).setCell ⟨V, 2, none⟩ (.int .i64 (highest k))).setCell ⟨V, 3, none⟩ (.string ⟨#[]⟩)).setCell ⟨V, 4, none⟩ (.string ⟨#[]⟩)).setCell ⟨V, 5, none⟩ (.bool false)).setCell ⟨V, 6, none⟩ (.slice none 0 0)) V 29 #[.int .i64 k, .int .i64 i, .int .i64 (highest k), .string ⟨#[]⟩, .string ⟨#[]⟩, .bool false, .slice none 0 0] := Blk.put7 hV4 _ _ _ _ _ _ _
  have hB5 : Below w.heap.size w (((((((w4.setCell ⟨V, 0, none⟩ (.int .i64 k)).setCell ⟨V, 1, none⟩ (.int .i64 i)).setCell ⟨V, 2, none⟩ (.int .i64 (highest k))).setCell ⟨V, 3, none⟩ (.string ⟨#[]⟩)).setCell ⟨V, 4, none⟩ (.string ⟨#[]⟩)).setCell ⟨V, 5, none⟩ (.bool false)).setCell ⟨V, 6, none⟩ (.slice none 0 0)) := below_put7 hB4 (by omega) _ _ _ _ _ _ _
  have hs5 : w.heap.size + 2 ≤ (((((((w4.setCell ⟨V, 0, none⟩ (.int .i64 k)).setCell ⟨V, 1, none⟩ (.int .i64 i)).setCell ⟨V, 2, none⟩ (.int .i64 (highest k))).setCell ⟨V, 3, none⟩ (.string ⟨#[]⟩)).setCell ⟨V, 4, none⟩ (.string ⟨#[]⟩)).setCell ⟨V, 5, none⟩ (.bool false)).setCell ⟨V, 6, none⟩ (.slice none 0 0)).heap.size := by rw [size_put7]; omega
  go_wp2_with fail
  clear z0 z1 z2 z3 z4 z5 z6 m0 m1 m2 m3 m4 m5 m6 p0 p1 p2 p3 p4 hl hlp hP4 hY4 hV4 hB4 hb4
  generalize (((((((w4.setCell ⟨V, 0, none⟩ (.int .i64 k)).setCell ⟨V, 1, none⟩ (.int .i64 i)).setCell ⟨V, 2, none⟩ (.int .i64 (highest k))).setCell ⟨V, 3, none⟩ (.string ⟨#[]⟩)).setCell ⟨V, 4, none⟩ (.string ⟨#[]⟩)).setCell ⟨V, 5, none⟩ (.bool false)).setCell ⟨V, 6, none⟩ (.slice none 0 0)) = w5 at *
  obtain ⟨p0, p1, p2, p3, p4, _⟩ := blk5 hP5
  have hl := hP5.lt
  refine (shutsOut_at 6 w5 false rfl).mono ?_
  rintro e wz ⟨rfl, rfl⟩
  obtain ⟨z0, z1, z2, z3, z4, z5, z6, m0, m1, m2, m3, m4, m5, m6⟩ := blk7 hV5
  have hlV := hV5.lt
  have hOa : OwnW wz (w.heap.size + 2) (.slice none 0 0) ([] : List Val) := OwnK.none_ _ _
  go_wp2_with fail
  clear p0 p1 p2 p3 p4 z0 z1 z2 z3 z4 z5 z6 m0 m1 m2 m3 m4 m5 m6 hl
  have hYa := hY5
  have hBa := hB5
  have hsa := hs5
  have hVla := hlV
  clear hP5 hY5 hB5
  generalize wz = wa at *
  refine (trimN_at k i (highest k) none 0 0 wa (w.heap.size + 2) ([] : List Val) HKK.out hl1 (Int.le_refl _) (by simp) rfl (by omega) hOa hsa).mono ?_
  rintro e wb ⟨⟨rK, rlo, rhi, rf, rt, ro, rno⟩, A7, n7, c7, rfl, hl7, hn7, ho7, hb7, hP7⟩
  dsimp only at hl7 ho7
  have HL7 := Lib.hid hl7
  have HP7 := Lib.hid hP7
  have hYb := Blk.below hYa hb7 (by omega)
  have hBb : Below w.heap.size w wb := hBa.trans (hb7.mono (by omega))
  have hsb := hb7.size
  have hc7 : n7 ≤ c7 := by
    obtain ⟨_, _, e, h, _⟩ := OwnK.rd ho7
    injection e with e1 e2 e3
    omega
  obtain ⟨u0, u1, u2, u3, u4, u5, u6, q0, q1, q2, q3, q4, q5, q6⟩ := blk7 hYb
  have hg7 : w.heap.size + 1 < wb.heap.size := hYb.lt
  clear hb7 hYb hl7 hP7
  go_wp2_with fail
  refine bodyPost_ret (v := spF rK rlo rhi rf rt ro A7 n7 c7) (by simp [results, Try.results28, go_sem, u0, u1, u2, u3, u4, u5, u6]) rfl ?_
  exact ⟨⟨rK, rlo, rhi, rf, rt, ro, rno⟩, HP7.out, by show rno.length ≤ _; have := HL7.out; omega, A7, n7, c7, rfl, HL7.out, hc7, (OwnK.put7 ho7 (by omega) _ _ _ _ _ _ _).less (by omega), below_put7 hBb (by omega) _ _ _ _ _ _ _⟩
end Go.Proofs.Ytcgmbgfbhdimeaa
