/-
  A frame of which some of its last bytes are missing tells that it is short, and frames ahead of it are found: for any two rows and every cut the call of the law answers true, and all arguments read behind it as they read before. No condition.
-/
import Derived.Test.YtncpbmokbnjjoaaFSml
namespace Go.Proofs.Ytncpbmokbnjjoaa
open Go.RowKit Go.ChangeShapes Go.WideShapes Go.ChangeAt
set_option maxRecDepth 100000 in
set_option maxHeartbeats 800000 in
theorem cuts_a (w : World) (A C : Option Addr) (cs : List UInt8) (la ca lb cb : Nat) (ha : 8192 < la) (hl2 : cs.length = lb) (rd2 : Rd w C cs) (p : Int) :
    Calls Try.prog 7 #[.slice A la ca, .slice C lb cb, .int .i64 p] w fun e w' => e = .returned (.bool true) ∧ Below w.heap.size w w' := by
  have HL2 := Lib.hid hl2
  clear hl2
  have hd1 : decide ((1000 : Int) < (la : Int)) = true := by simp; omega
  have hd2 : decide ((8192 : Int) < (la : Int)) = true := by simp; omega
  go_enter Try.func7, Try.ntmps7
  go_wp2_with fail
  refine (small_any _).mono ?_
  rintro e w1 ⟨rfl, hb1⟩
  go_wp2_with fail
  refine (make_long A la ca ha _).mono ?_
  rintro e w2 ⟨rfl, rfl⟩
  by_cases hb : 8192 < lb
  · have hd3 : decide ((8192 : Int) < (lb : Int)) = true := by simp; omega
    go_wp2_with fail
    refine (make_long C lb cb hb _).mono ?_
    rintro e w2 ⟨rfl, rfl⟩
    go_wp2_with fail
    go_ret
    exact ⟨rfl, hb1⟩
  · go_wp2_with fail
    refine (make_at C cs lb (lb + 10) cb HL2.out (by omega) rfl _ (rd2.below hb1)).mono ?_
    rintro e w2 ⟨g, rfl, hg2, hb2, hB2⟩
    replace hb2 := below_next hb1 (Nat.le_refl _) hb2
    go_wp2_with fail
    go_ret
    exact ⟨rfl, hb2⟩
set_option maxRecDepth 100000 in
set_option maxHeartbeats 800000 in
theorem cuts_b (w : World) (A C : Option Addr) (bs : List UInt8) (la ca lb cb : Nat) (ha : la ≤ 8192) (hb : 8192 < lb) (hl : bs.length = la) (rd : Rd w A bs) (p : Int) :
    Calls Try.prog 7 #[.slice A la ca, .slice C lb cb, .int .i64 p] w fun e w' => e = .returned (.bool true) ∧ Below w.heap.size w w' := by
  have HL := Lib.hid hl
  clear hl
  have hd1 : decide ((1000 : Int) < (lb : Int)) = true := by simp; omega
  have hd2 : decide ((8192 : Int) < (lb : Int)) = true := by simp; omega
  go_enter Try.func7, Try.ntmps7
  go_wp2_with fail
  refine (small_any _).mono ?_
  rintro e w1 ⟨rfl, hb1⟩
  go_wp2_with fail
  refine (make_at A bs la (la + 10) ca HL.out ha rfl _ (rd.below hb1)).mono ?_
  rintro e w2 ⟨g, rfl, hg2, hb2, hB2⟩
  replace hb2 := below_next hb1 (Nat.le_refl _) hb2
  clear hB2 hg2 hb1
  go_wp2_with fail
  refine (make_long C lb cb hb _).mono ?_
  rintro e w3 ⟨rfl, rfl⟩
  by_cases h1 : (1000 : Int) < (la : Int)
  · have hd3 : decide ((1000 : Int) < (la : Int)) = true := by simpa using h1
    go_wp2_with fail
    go_ret
    exact ⟨rfl, hb2⟩
  · have hd3 : decide ((1000 : Int) < (la : Int)) = false := by simpa using h1
    go_wp2_with fail
    go_ret
    exact ⟨rfl, hb2⟩
set_option maxRecDepth 100000 in
set_option maxHeartbeats 800000 in
theorem cuts_out (w : World) (A C : Option Addr) (bs cs : List UInt8) (la ca lb cb : Nat) (ha : la ≤ 8192) (hb : lb ≤ 8192) (hl : bs.length = la) (rd : Rd w A bs) (hl2 : cs.length = lb) (rd2 : Rd w C cs) (p : Int)
    (h : 1000 < la ∨ 1000 < lb ∨ p < 0 ∨ (lb : Int) + 10 ≤ p) :
    Calls Try.prog 7 #[.slice A la ca, .slice C lb cb, .int .i64 p] w fun e w' => e = .returned (.bool true) ∧ Below w.heap.size w w' := by
  have HL := Lib.hid hl
  have HL2 := Lib.hid hl2
  have HH := Lib.hid h
  clear hl hl2 h
  go_enter Try.func7, Try.ntmps7
  go_wp2_with fail
  refine (small_any _).mono ?_
  rintro e w1 ⟨rfl, hb1⟩
  go_wp2_with fail
  refine (make_at A bs la (la + 10) ca HL.out ha rfl _ (rd.below hb1)).mono ?_
  rintro e w2 ⟨g, rfl, hg2, hb2, hB2⟩
  replace hb2 := below_next hb1 (Nat.le_refl _) hb2
  clear hB2 hg2 hb1
  go_wp2_with fail
  refine (make_at C cs lb (lb + 10) cb HL2.out hb rfl _ (rd2.below hb2)).mono ?_
  rintro e w3 ⟨g3, rfl, hg3, hb3, hB3⟩
  replace hb3 := below_next hb2 (Nat.le_refl _) hb3
  clear hB3 hg3 hb2
  by_cases h1 : (1000 : Int) < (la : Int)
  · have hd3 : decide ((1000 : Int) < (la : Int)) = true := by simpa using h1
    go_wp2_with fail
    go_ret
    exact ⟨rfl, hb3⟩
  have hd1 : decide ((1000 : Int) < (la : Int)) = false := by simpa using h1
  by_cases h2 : (1000 : Int) < (lb : Int)
  · have hd3 : decide ((1000 : Int) < (lb : Int)) = true := by simpa using h2
    go_wp2_with fail
    go_ret
    exact ⟨rfl, hb3⟩
  have hd2 : decide ((1000 : Int) < (lb : Int)) = false := by simpa using h2
  by_cases h3 : p < 0
  · have hd3 : decide (p < 0) = true := by simpa using h3
    go_wp2_with fail
    go_ret
    exact ⟨rfl, hb3⟩
  have hd3 : decide (p < 0) = false := by simpa using h3
  have hd4 : decide ((lb : Int) + 10 ≤ p) = true := by have := HH.out; simp; omega
  go_wp2_with fail
  go_ret
  exact ⟨rfl, hb3⟩
set_option maxRecDepth 100000 in
set_option maxHeartbeats 1600000 in
theorem cuts_in (w : World) (A C : Option Addr) (bs cs : List UInt8) (la ca lb cb k z : Nat) (ha : la ≤ 1000) (hb : lb ≤ 1000) (hl : bs.length = la) (rd : Rd w A bs) (hl2 : cs.length = lb) (rd2 : Rd w C cs) (hk : k < lb + 10)
    (hz : (if k = 0 then 0 else 2) = z) (hzz : (((z : Int) == 2) == decide (0 < k)) = true) :
    Calls Try.prog 7 #[.slice A la ca, .slice C lb cb, .int .i64 (k : Int)] w fun e w' => e = .returned (.bool true) ∧ Below w.heap.size w w' := by
  have HL := Lib.hid hl
  have HL2 := Lib.hid hl2
  have HZ := Lib.hid hz
  have HZZ := Lib.hid hzz
  clear hl hl2 hz hzz
  have hd1 : decide ((1000 : Int) < (la : Int)) = false := by simp; omega
  have hd2 : decide ((1000 : Int) < (lb : Int)) = false := by simp; omega
  have hd3 : decide ((k : Int) < 0) = false := by simp
  have hd4 : decide ((lb : Int) + 10 ≤ (k : Int)) = false := by simp; omega
  obtain ⟨i0, hi0, hz0, hz1, hz2⟩ := info_parts byte_info
  go_enter Try.func7, Try.ntmps7
  go_wp2_with fail
  refine (small_any _).mono ?_
  rintro e w1 ⟨rfl, hb1⟩
  go_wp2_with fail
  refine (make_at A bs la (la + 10) ca HL.out (by omega) rfl _ (rd.below hb1)).mono ?_
  rintro e w2 ⟨gx, rfl, hgx, hb2, hBx⟩
  replace hb2 := below_next hb1 (Nat.le_refl _) hb2
  clear hgx hb1
  go_wp2_with fail
  refine (make_at C cs lb (lb + 10) cb HL2.out (by omega) rfl _ (rd2.below hb2)).mono ?_
  rintro e w3 ⟨gy, rfl, hgy, hb3, hBy⟩
  replace hBx := hBx.below hb3 hBx.lt
  replace hb3 := below_next hb2 (Nat.le_refl _) hb3
  clear hgy hb2
  have hsl := run_head (some ⟨gy, 0, none⟩) (lb + 10) (lb + 10) k (by omega) (Nat.le_refl _)
  have HX : Hid ((Frm.frame bs).length = la + 10) := by rw [Hid, Frm.frame_length, HL.out]
  have HY : Hid (((Frm.frame cs).take k).length = k) := by rw [Hid, List.length_take, Frm.frame_length, HL2.out]; omega
  have HE := Lib.hid (Frm.err_cut cs (by rw [HL2.out]; omega) k (by rw [Frm.frame_length, HL2.out]; exact hk))
  have HALL : Hid (Frm.all (Frm.frame bs ++ (Frm.frame cs).take k) = ([bs], la + 10, z)) := by
    rw [Hid, Frm.all_cut bs cs (by rw [HL.out]; omega) (by rw [HL2.out]; omega) k (by rw [Frm.frame_length, HL2.out]; exact hk), HL.out, HZ.out]
  go_wp2_with fail
  refine (next_bad _ ((Frm.frame cs).take k) k 2 _ HY.out (by omega) (by omega) _ (hBy.rd.take k) HE.out (by decide)).mono ?_
  rintro e w4 ⟨rfl, hb4⟩
  replace hBx := hBx.below hb4 hBx.lt
  replace hBy := hBy.below hb4 hBy.lt
  replace hb4 := below_next hb3 (Nat.le_refl _) hb4
  clear hb3
  go_wp2_with fail
  have hS0 : Below w4.heap.size w4 w4.drew := (Below.refl _ _).drew
  refine wp_region_held_drew (S := fun w' => Below w4.heap.size w4 w') (by kernel_rfl) hS0 (fun _ => ?_)
  refine wpAnyH_yes (i := 1) (d := 84) (v := ?_) rfl rfl (by kernel_rfl) (by kernel_rfl) (by kernel_rfl) (fun _ _ _ h => h) (by rfl) ?_ hS0 ?_
  rotate_left
  · intro w' hSw; go_simp <;> with_reducible rfl
  simp only [Act.put, List.setIfInBounds_toArray, List.set_cons_zero, List.set_cons_succ]
  refine wpAnyH_yes (i := 3) (d := 86) (v := ?_) rfl rfl (by kernel_rfl) (by kernel_rfl) (by kernel_rfl) (fun _ _ _ h => h) (by rfl) ?_ hS0 ?_
  rotate_left
  · intro w' hSw; go_simp <;> with_reducible rfl
  simp only [Act.put, List.setIfInBounds_toArray, List.set_cons_zero, List.set_cons_succ]
  refine wpAnyH_yes (i := 4) (d := 87) (v := ?_) rfl rfl (by kernel_rfl) (by kernel_rfl) (by kernel_rfl) (fun _ _ _ h => h) (by rfl) ?_ hS0 ?_
  rotate_left
  · intro w' hSw; go_simp <;> with_reducible rfl
  simp only [Act.put, List.setIfInBounds_toArray, List.set_cons_zero, List.set_cons_succ]
  refine wpAnyH_yes (i := 5) (d := 88) (v := ?_) rfl rfl (by kernel_rfl) (by kernel_rfl) (by kernel_rfl) (fun _ _ _ h => h) (by rfl) ?_ hS0 ?_
  rotate_left
  · intro w' hSw; go_simp <;> with_reducible rfl
  simp only [Act.put, List.setIfInBounds_toArray, List.set_cons_zero, List.set_cons_succ]
  refine wpAnyH_one (i := 0) (by kernel_rfl) rfl (by rfl) (fun K hK1 => ?_)
  go_simp
  have hb5 : Below w4.heap.size w4 (w4.alloc (.cells #[] 5)).drew := ((Below.refl _ _).alloc (Nat.le_refl _) _).drew
  have hO5 : Own (w4.alloc (.cells #[] 5)).drew w4.heap.size 5 (.slice (some ⟨w4.heap.size, 0, none⟩) 0 0) [] := Own.empty w4 w4.heap.size 5 (Nat.le_refl _)
  refine hK1.out _ _ hb5 ?_
  refine wpAnyH_one (i := 2) (by kernel_rfl) rfl (by rfl) (fun K hK2 => ?_)
  refine op_append_rd (.tmp 83) (.tmp 84) 22 rfl w4.heap.size 5 i0 Try.underlying22 hi0 hz0 hz1 hz2 (.slice (some ⟨w4.heap.size, 0, none⟩) 0 0) ([]) (by rfl) (hO5) (some ⟨gx, 0, none⟩) (Frm.frame bs) (la + 10) (la + 10) (by rfl) (hBx.rd.below hb5) (HX.out) (by simp; omega) (hb5.size) ?_
  intro v6 w6 hO6 hb6'
  have hb6 := hb6' w4 hb5
  rw [List.nil_append] at hO6
  refine hK2.out _ _ hb6 ?_
  simp only [Act.put, List.setIfInBounds_toArray, List.set_cons_zero, List.set_cons_succ]
  refine wpAnyH_one (i := 6) (by kernel_rfl) rfl (by rfl) (fun K hK3 => ?_)
  refine op_append_rd (.tmp 85) (.tmp 88) 22 rfl w4.heap.size 5 i0 Try.underlying22 hi0 hz0 hz1 hz2 (v6) (Frm.frame bs) (by rfl) (hO6) (some ⟨gy, 0, none⟩) ((Frm.frame cs).take k) (k) (lb + 10) (by rfl) ((hBy.rd.take k).below hb6) (HY.out) (by rw [HX.out]; omega) (hb6.size) ?_
  intro v7 w7 hO7 hb7'
  have hb7 := hb7' w4 hb6
  obtain ⟨A7, c7, rfl, hc7, hr7⟩ := hO7.rd
  have HN : Hid ((Frm.frame bs ++ (Frm.frame cs).take k).length = la + 10 + k) := by rw [Hid, List.length_append, HX.out, HY.out]
  rw [HN.out] at hc7 ⊢
  refine hK3.out _ _ hb7 ?_
  simp only [Act.put, List.setIfInBounds_toArray, List.set_cons_zero, List.set_cons_succ]
  refine wpAnyH_one (i := 7) (by kernel_rfl) rfl (by rfl) (fun K hK4 => ?_)
  go_simp
  with_reducible refine (all_at A7 (Frm.frame bs ++ (Frm.frame cs).take k) (la + 10 + k) 1 (la + 10) z c7 [bs] HN.out hc7 (by omega) (by omega) _ hr7 HALL.out rfl).mono ?_
  rintro e w8 ⟨Bl, cl, rfl, hcl, hRl, hb8⟩
  replace hb8 := below_next hb7 (Nat.le_refl _) hb8
  go_wp2_with fail
  refine hK4.out _ _ hb8 ?_
  refine wpAnyH_yes (i := 8) (d := 82) (v := ?_) rfl rfl (by kernel_rfl) (by kernel_rfl) (by kernel_rfl) (fun _ _ _ h => h) (by rfl) ?_ hb8 ?_
  rotate_left
  · intro w' hSw; go_simp <;> with_reducible rfl
  simp only [Act.put, List.setIfInBounds_toArray, List.set_cons_zero, List.set_cons_succ]
  refine wpAnyH_yes (i := 9) (d := 91) (v := ?_) rfl rfl (by kernel_rfl) (by kernel_rfl) (by kernel_rfl) (fun _ _ _ h => h) (by rfl) ?_ hb8 ?_
  rotate_left
  · intro w' hSw; go_simp <;> with_reducible rfl
  simp only [Act.put, List.setIfInBounds_toArray, List.set_cons_zero, List.set_cons_succ]
  refine wpAnyH_yes (i := 10) (d := 92) (v := ?_) rfl rfl (by kernel_rfl) (by kernel_rfl) (by kernel_rfl) (fun _ _ _ h => h) (by rfl) ?_ hb8 ?_
  rotate_left
  · intro w' hSw; go_simp <;> with_reducible rfl
  simp only [Act.put, List.setIfInBounds_toArray, List.set_cons_zero, List.set_cons_succ]
  refine wpAnyH_yes (i := 11) (d := 93) (v := ?_) rfl rfl (by kernel_rfl) (by kernel_rfl) (by kernel_rfl) (fun _ _ _ h => h) (by rfl) ?_ hb8 ?_
  rotate_left
  · intro w' hSw; go_simp <;> with_reducible rfl
  simp only [Act.put, List.setIfInBounds_toArray, List.set_cons_zero, List.set_cons_succ]
  refine wpAnyH_yes (i := 12) (d := 15) (v := ?_) rfl rfl (by kernel_rfl) (by kernel_rfl) (by kernel_rfl) (fun _ _ _ h => h) (by rfl) ?_ hb8 ?_
  rotate_left
  · intro w' hSw; go_simp <;> with_reducible rfl
  simp only [Act.put, List.setIfInBounds_toArray, List.set_cons_zero, List.set_cons_succ]
  refine wpAnyH_yes (i := 13) (d := 16) (v := ?_) rfl rfl (by kernel_rfl) (by kernel_rfl) (by kernel_rfl) (fun _ _ _ h => h) (by rfl) ?_ hb8 ?_
  rotate_left
  · intro w' hSw; go_simp <;> with_reducible rfl
  simp only [Act.put, List.setIfInBounds_toArray, List.set_cons_zero, List.set_cons_succ]
  refine wpAnyH_yes (i := 14) (d := 17) (v := ?_) rfl rfl (by kernel_rfl) (by kernel_rfl) (by kernel_rfl) (fun _ _ _ h => h) (by rfl) ?_ hb8 ?_
  rotate_left
  · intro w' hSw; go_simp <;> with_reducible rfl
  simp only [Act.put, List.setIfInBounds_toArray, List.set_cons_zero, List.set_cons_succ]
  refine wpAnyH_done (by kernel_rfl) ?_ _
  replace hb8 := below_next hb4 (Nat.le_refl _) hb8
  clear hb4 hb5 hO5 hb6 hb6' hO6 hb7 hb7' hO7 hr7 hBx hBy hsl
  obtain ⟨g0, o0, B0, c0, rfl, _, hc0, _, hr0⟩ := hRl.at_ (k := 0) (by simp)
  simp only [List.getElem_cons_zero, Nat.add_zero] at hc0 hr0
  rw [HL.out] at hc0
  have hs1 := run_strN (P := Try.prog) w8 B0 bs la c0 hr0 HL.out 22 5 9 Try.underlying22 Try.underlying5 Try.underlying9
  have hs2 := run_strN (P := Try.prog) w8 A bs la ca (rd.below hb8) HL.out 22 5 9 Try.underlying22 Try.underlying5 Try.underlying9
  go_wp2_with fail
  go_quiet (fail)
  go_wp2_with fail
  go_ret
  exact ⟨congrArg (fun b => Ending.returned (.bool b)) HZZ.out, below_drewN hb8 _⟩
theorem walk_FrameCuts (w : World) (A : Option Addr) (bs : List UInt8) (la ca : Nat) (hl : bs.length = la) (_ : la ≤ ca) (_ : ca ≤ 140737488351232) (rd : Rd w A bs)
    (C : Option Addr) (cs : List UInt8) (lb cb : Nat) (hl2 : cs.length = lb) (_ : lb ≤ cb) (_ : cb ≤ 140737488351232) (rd2 : Rd w C cs) (p : Int) (_ : (Lit.int .i64 p).wf = true) :
    Calls Try.prog 7 #[.slice A la ca, .slice C lb cb, .int .i64 p] w fun e w' => e = .returned (.bool true) ∧ Below w.heap.size w w' := by
  by_cases h1 : 8192 < la
  · exact cuts_a w A C cs la ca lb cb h1 hl2 rd2 p
  · by_cases h2 : 8192 < lb
    · exact cuts_b w A C bs la ca lb cb (by omega) h2 hl rd p
    · by_cases h : 1000 < la ∨ 1000 < lb ∨ p < 0 ∨ (lb : Int) + 10 ≤ p
      · exact cuts_out w A C bs cs la ca lb cb (by omega) (by omega) hl rd hl2 rd2 p h
      · obtain ⟨k, rfl⟩ := Int.eq_ofNat_of_zero_le (show 0 ≤ p by omega)
        refine cuts_in w A C bs cs la ca lb cb k _ (by omega) (by omega) hl rd hl2 rd2 (by omega) rfl ?_
        by_cases hk : k = 0
        · subst hk; rfl
        · simp [hk]; omega

/-! ### The row's step. -/
namespace frameCuts
theorem own : ownKnob Try.prog.godebug = none := by kernel_rfl
theorem laidOut : laidOutB Try.prog = true := by kernel_rfl
set_option linter.unusedVariables false in
set_option maxRecDepth 100000 in
theorem lifted (os : Os) (started : os.Started) (H : Type) (enc : TypeId × Value → H) :
    ReturnsInHanded {} Try.checked os 7 .any (Rows.frameCutsSpec.pre6 enc Try.prog Try.f7 Rows.frameCutsRow.domain false) (Rows.frameCutsSpec.post enc Try.prog Try.f7 false true false false) := by
  refine returnsInHanded_of_change_sized (C := Try.checked) own started (by kernel_rfl) Try.func7
    (ChangeSpec.witness6 (enc := enc) (C := Try.checked) false ⟨#[], #[.slice none 0 0, .slice none 0 0, .int .i64 0], []⟩ 8 (by kernel_rfl) (by kernel_rfl) (by kernel_rfl) (by kernel_rfl)) ?_
  intro W base args ds gs before hval0 hW hcnd hsz0 _
  have hval : ∀ (j : Nat) t v, Try.f7.params[j]? = some t → args[j]? = some v → Value.okWide Try.prog W .any base t v := hval0
  have hsz : (DataW.weightsEach Try.prog (Try.f7.params.toList ++ Rows.frameCutsSpec.plain.varTypes Try.prog) (ds ++ gs)).all (· ≤ reachBytes) = true := hsz0
  have hW' := hW
  obtain ⟨p, q, hA0, hV, rfl, hfz, hnd⟩ := hW
  have hA : DataW.TrodAll enc Try.prog W 0 (fun _ => true) true Try.f7.params.toList args.toList ds p := hA0
  rw [Try.params7] at hA hval hsz
  obtain ⟨v0, vs0, d0, ds0, p0, q0, hargs, rfl, rfl, h0, r0⟩ := trodAll_cons hA
  obtain ⟨v1, vs1, d1, ds1, p1, q1, rfl, rfl, rfl, h1, r1⟩ := trodAll_cons r0
  obtain ⟨v2, vs2, d2, ds2, p2, q2, rfl, rfl, rfl, h2, r2⟩ := trodAll_cons r1
  obtain ⟨rfl, rfl, rfl⟩ := trodAll_nil r2
  obtain rfl : args = #[v0, v1, v2] := by cases args; simp_all
  obtain ⟨rfl, rfl⟩ := trodVars_none hV
  obtain ⟨a0, len0, cap0, rfl⟩ := okWide_slice Try.underlying22 (hval 0 22 v0 rfl rfl)
  have k0 := h0
  have lt0 : ∀ x ∈ p0, x.block < W.heap.size := by obtain ⟨m, hm⟩ := k0; exact DataW.trod_lt m _ _ _ hm
  obtain ⟨bs0, hl0, hc0, hm0, rd0⟩ : ∃ bs : List UInt8, bs.length = len0 ∧ len0 ≤ cap0 ∧ cap0 ≤ 140737488351232 ∧ Rd W a0 bs := by
    obtain ⟨fuel, hf⟩ := h0
    rcases open_ints Try.underlying22 Try.underlying5 (by kernel_rfl) hf with ⟨hcs, _⟩ | ⟨x, l, c, zs, hcs, _, hl, hm, hz, hx, hcell, hwz⟩
    · simp [Value.cells] at hcs
      obtain ⟨rfl, rfl, rfl⟩ := hcs
      exact ⟨[], rfl, by omega, by omega, .inl rfl⟩
    · simp [Value.cells] at hcs
      obtain ⟨rfl, rfl, rfl⟩ := hcs
      have hz' : zs.length = cap0 := by simpa using hz
      have hd : d0 = .slice (lits .u8 (zs.take len0)) (lits .u8 (zs.drop len0)) := congrArg Prod.fst hx
      have hb := sized_slice hsz (j := 0) (t := 22) (elems := lits .u8 (zs.take len0)) (spare := lits .u8 (zs.drop len0)) rfl (by rw [hd]; rfl) Try.underlying22
      have hb' : cap0 ≤ 140737488351232 := by
        rw [show Try.prog.bytesOf 5 = 1 from by kernel_rfl] at hb
        simp [lits, reachBytes] at hb; omega
      obtain ⟨bs, e1, e2⟩ := rd_of_ints hl hz' hcell hwz
      exact ⟨bs, e1, hl, hb', e2⟩
  obtain ⟨a1, len1, cap1, rfl⟩ := okWide_slice Try.underlying22 (hval 1 22 v1 rfl rfl)
  have k1 := h1
  have lt1 : ∀ x ∈ p1, x.block < W.heap.size := by obtain ⟨m, hm⟩ := k1; exact DataW.trod_lt m _ _ _ hm
  obtain ⟨bs1, hl1, hc1, hm1, rd1⟩ : ∃ bs : List UInt8, bs.length = len1 ∧ len1 ≤ cap1 ∧ cap1 ≤ 140737488351232 ∧ Rd W a1 bs := by
    obtain ⟨fuel, hf⟩ := h1
    rcases open_ints Try.underlying22 Try.underlying5 (by kernel_rfl) hf with ⟨hcs, _⟩ | ⟨x, l, c, zs, hcs, _, hl, hm, hz, hx, hcell, hwz⟩
    · simp [Value.cells] at hcs
      obtain ⟨rfl, rfl, rfl⟩ := hcs
      exact ⟨[], rfl, by omega, by omega, .inl rfl⟩
    · simp [Value.cells] at hcs
      obtain ⟨rfl, rfl, rfl⟩ := hcs
      have hz' : zs.length = cap1 := by simpa using hz
      have hd : d1 = .slice (lits .u8 (zs.take len1)) (lits .u8 (zs.drop len1)) := congrArg Prod.fst hx
      have hb := sized_slice hsz (j := 1) (t := 22) (elems := lits .u8 (zs.take len1)) (spare := lits .u8 (zs.drop len1)) rfl (by rw [hd]; rfl) Try.underlying22
      have hb' : cap1 ≤ 140737488351232 := by
        rw [show Try.prog.bytesOf 5 = 1 from by kernel_rfl] at hb
        simp [lits, reachBytes] at hb; omega
      obtain ⟨bs, e1, e2⟩ := rd_of_ints hl hz' hcell hwz
      exact ⟨bs, e1, hl, hb', e2⟩
  obtain ⟨a2, rfl, rfl, rfl, w2⟩ := open_int Try.underlying3 (hval 2 3 v2 rfl rfl) h2
  clear hA0 hval0
  refine (walk_FrameCuts W a0 bs0 len0 cap0 hl0 hc0 hm0 rd0 a1 bs1 len1 cap1 hl1 hc1 hm1 rd1 a2 w2).mono fun e W' ⟨he, bel⟩ => ?_
  subst he
  exact ⟨_, rfl, _, _, _, [], _, [], hW', trodAll_mk1 (shut_bool Try.underlying4 _), (trodAll_cons_mk (Below.trod laidOut (by kernel_rfl) (of_decide_eq_true (by kernel_rfl)) k0 bel lt0) (trodAll_cons_mk (Below.trod laidOut (by kernel_rfl) (of_decide_eq_true (by kernel_rfl)) k1 bel lt1) (trodAll_cons_mk (shut_int Try.underlying3 w2) trodAll_mk0))), rfl, bel.frame _, fun h => by cases h⟩
theorem over : Rows.frameCutsRow.holds Try.pinned (OpenSpec.ofChange Rows.frameCutsSpec) :=
  OpenClaim.holds_of_wide 7 Try.f7 rfl rfl rfl rfl rfl rfl rfl ⟨rfl, rfl, rfl, rfl, rfl⟩ rfl rfl rfl rfl rfl (by kernel_rfl) Try.func7 (by kernel_rfl)
    (of_decide_eq_true (by kernel_rfl)) (by unfold Func.isWrapper; first | (rw [if_pos (by decide +kernel)]; kernel_rfl) | (rw [if_neg (by decide +kernel)]; exact ⟨rfl, rfl⟩))
    (fun os started H enc _ => lifted os started H enc)
end frameCuts
/-- THE STATEMENT. -/
theorem frameCuts_holds : Rows.FrameCutsSaid := frameCuts.over
#print axioms frameCuts_holds
end Go.Proofs.Ytncpbmokbnjjoaa
