/-
  What is sealed is opened as it was, and what is opened was sealed so: for all bytes the call of the law answers true, and all arguments read behind it as they read before. No condition.
-/
import Derived.Test.YtkljekjgliebdaaSml
namespace Go.Proofs.Ytkljekjgliebdaa
open Go.RowKit Go.ChangeShapes Go.WideShapes Go.ChangeAt
theorem back_out (w : World) (A C : Option Addr) (len cap len2 cap2 : Nat) (h : 1000 < len ∨ 1000 < len2) :
    Calls Try.prog 5 #[.slice A len cap, .slice C len2 cap2] w fun e w' => e = .returned (.bool true) ∧ Below w.heap.size w w' := by
  go_enter Try.func5, Try.ntmps5
  go_wp2_with fail
  refine (small_any _).mono ?_
  rintro e w1 ⟨rfl, hb1⟩
  by_cases h1 : (1000 : Int) < (len : Int)
  · have hd1 : decide ((1000 : Int) < (len : Int)) = true := by simpa using h1
    go_wp2_with fail
    go_ret
    exact ⟨rfl, hb1⟩
  · have hd1 : decide ((1000 : Int) < (len : Int)) = false := by simpa using h1
    have hd3 : decide ((1000 : Int) < (len2 : Int)) = true := by simp; omega
    go_wp2_with fail
    go_ret
    exact ⟨rfl, hb1⟩
set_option maxRecDepth 100000 in
set_option maxHeartbeats 800000 in
theorem back_bad (w : World) (A C : Option Addr) (bs cs : List UInt8) (len cap len2 cap2 : Nat) (hl : bs.length = len) (hm : len ≤ 1000) (rd : Rd w A bs)
    (hl2 : cs.length = len2) (hc2 : len2 ≤ cap2) (hm2 : len2 ≤ 1000) (hcap2 : cap2 ≤ 140737488351232) (rd2 : Rd w C cs) (hg : Crc.good cs = false) :
    Calls Try.prog 5 #[.slice A len cap, .slice C len2 cap2] w fun e w' => e = .returned (.bool true) ∧ Below w.heap.size w w' := by
  have HL := Lib.hid hl
  have HL2 := Lib.hid hl2
  clear hl hl2
  have hd1 : decide ((1000 : Int) < (len : Int)) = false := by simp; omega
  have hd2 : decide ((1000 : Int) < (len2 : Int)) = false := by simp; omega
  go_enter Try.func5, Try.ntmps5
  go_wp2_with fail
  refine (small_any _).mono ?_
  rintro e w1 ⟨rfl, hb1⟩
  go_wp2_with fail
  refine (seal_at _ bs _ (len + 4) _ HL.out rfl (by omega) _ (rd.below hb1)).mono ?_
  rintro e w2 ⟨g2, rfl, hg2, hb2, hB2⟩
  replace hb2 := below_next hb1 (Nat.le_refl _) hb2
  have hr2 := hB2.rd
  go_wp2_with fail
  refine (open_good _ (Crc.shut bs) _ len _ (by rw [Crc.shut_length, HL.out]) rfl (Nat.le_refl _) (by omega) _ hr2 (Crc.good_shut bs)).mono ?_
  rintro e w3 ⟨g3, rfl, hg3, hb3, hB3⟩
  rw [show (Crc.shut bs).take len = bs by have := Crc.shut_take bs; rwa [Crc.shut_length, HL.out] at this] at hB3
  replace hb3 := below_next hb2 (Nat.le_refl _) hb3
  have hlt3 := hB3.lt
  clear hr2 hB2
  go_wp2_with fail
  refine (open_none _ cs _ _ HL2.out hc2 hcap2 _ (rd2.below hb3) hg).mono ?_
  rintro e w4 ⟨rfl, hb4⟩
  have hst1 := run_str (P := Try.prog) w4 _ bs len len (hB3.below hb4 hlt3).rd HL.out 23 5 9 Try.underlying23 Try.underlying5 Try.underlying9
  replace hb4 := below_next hb3 (Nat.le_refl _) hb4
  have hst2 := run_str (P := Try.prog) w4 A bs len cap (rd.below hb4) HL.out 23 5 9 Try.underlying23 Try.underlying5 Try.underlying9
  go_wp2_with fail
  go_quiet (fail)
  go_wp2_with fail
  go_ret
  exact ⟨rfl, below_drewN hb4 _⟩
theorem back_keep {w w4 w5 : World} {D C : Option Addr} {ds cs : List UInt8} {len2 : Nat} (h : Below w.heap.size w w4) (k : Below w4.heap.size w4 w5) (hr : Rd w4 D ds) (rd2 : Rd w C cs) (hl : cs.length = len2) (cap2 : Nat) :
    Below w.heap.size w w5 ∧ Rd w5 D ds ∧ Sem.run Try.prog (convert 23 9 (.slice C len2 cap2)) w5 = .ok (.string ⟨cs.toArray⟩) w5 :=
  ⟨below_next h (Nat.le_refl _) k, hr.below k, run_str (P := Try.prog) _ C cs len2 cap2 (rd2.below (below_next h (Nat.le_refl _) k)) hl 23 5 9 Try.underlying23 Try.underlying5 Try.underlying9⟩
set_option maxRecDepth 100000 in
set_option maxHeartbeats 800000 in
theorem back_good (w : World) (A C : Option Addr) (bs cs : List UInt8) (len cap len2 cap2 : Nat) (hl : bs.length = len) (hm : len ≤ 1000) (rd : Rd w A bs)
    (hl2 : cs.length = len2) (hc2 : len2 ≤ cap2) (hm2 : len2 ≤ 1000) (hcap2 : cap2 ≤ 140737488351232) (rd2 : Rd w C cs) (hg : Crc.good cs = true) :
    Calls Try.prog 5 #[.slice A len cap, .slice C len2 cap2] w fun e w' => e = .returned (.bool true) ∧ Below w.heap.size w w' := by
  have HL := Lib.hid hl
  have HL2 := Lib.hid hl2
  clear hl hl2
  have hd1 : decide ((1000 : Int) < (len : Int)) = false := by simp; omega
  have hd2 : decide ((1000 : Int) < (len2 : Int)) = false := by simp; omega
  go_enter Try.func5, Try.ntmps5
  go_wp2_with fail
  refine (small_any _).mono ?_
  rintro e w1 ⟨rfl, hb1⟩
  go_wp2_with fail
  refine (seal_at _ bs _ (len + 4) _ HL.out rfl (by omega) _ (rd.below hb1)).mono ?_
  rintro e w2 ⟨g2, rfl, hg2, hb2, hB2⟩
  replace hb2 := below_next hb1 (Nat.le_refl _) hb2
  have hr2 := hB2.rd
  go_wp2_with fail
  refine (open_good _ (Crc.shut bs) _ len _ (by rw [Crc.shut_length, HL.out]) rfl (Nat.le_refl _) (by omega) _ hr2 (Crc.good_shut bs)).mono ?_
  rintro e w3 ⟨g3, rfl, hg3, hb3, hB3⟩
  rw [show (Crc.shut bs).take len = bs by have := Crc.shut_take bs; rwa [Crc.shut_length, HL.out] at this] at hB3
  replace hb3 := below_next hb2 (Nat.le_refl _) hb3
  have hlt3 := hB3.lt
  clear hr2 hB2
  go_wp2_with fail
  have h4 : 4 ≤ cs.length := by simp [Crc.good] at hg; exact hg.1
  obtain ⟨m, hm4⟩ : ∃ m, len2 = m + 4 := ⟨len2 - 4, by rw [HL2.out] at h4; omega⟩
  have HM := Lib.hid hm4
  clear hm4
  have hmle : m ≤ 1000 := by have := HM.out; omega
  refine (open_good _ cs _ m _ HL2.out HM.out hc2 hcap2 _ (rd2.below hb3) hg).mono ?_
  rintro e w4 ⟨g4, rfl, hg4, hb4, hB4⟩
  have HS : Hid (Crc.shut (cs.take m) = cs) := by
    have := Crc.shut_of_good cs hg
    rw [HL2.out, show len2 - 4 = m by have := HM.out; omega] at this
    exact this
  have HT : Hid ((cs.take m).length = m) := by rw [Hid, List.length_take, HL2.out]; have := HM.out; omega
  have hst1 := run_str (P := Try.prog) w4 _ bs len len (hB3.below hb4 hlt3).rd HL.out 23 5 9 Try.underlying23 Try.underlying5 Try.underlying9
  replace hb4 := below_next hb3 (Nat.le_refl _) hb4
  have hst2 := run_str (P := Try.prog) w4 A bs len cap (rd.below hb4) HL.out 23 5 9 Try.underlying23 Try.underlying5 Try.underlying9
  have hr4 := hB4.rd
  clear h4
  go_wp2_with fail
  clear hst1 hst2
  have hS : Below w.heap.size w w4.drew ∧ Rd w4.drew (some ⟨g4, 0, none⟩) (cs.take m) ∧ Sem.run Try.prog (convert 23 9 (.slice C len2 cap2)) w4.drew = .ok (.string ⟨cs.toArray⟩) w4.drew := ⟨hb4.drew, hr4, run_str (P := Try.prog) _ C cs len2 cap2 (rd2.below hb4.drew) HL2.out 23 5 9 Try.underlying23 Try.underlying5 Try.underlying9⟩
  refine wp_region_held_drew (S := fun w' => Below w.heap.size w w' ∧ Rd w' (some ⟨g4, 0, none⟩) (cs.take m) ∧ Sem.run Try.prog (convert 23 9 (.slice C len2 cap2)) w' = .ok (.string ⟨cs.toArray⟩) w') (by kernel_rfl) hS (fun _ => ?_)
  refine wpAnyH_yes (i := 0) (d := 40) (v := ?_) rfl rfl (by kernel_rfl) (by kernel_rfl) (by kernel_rfl) (fun _ _ _ h => h) (by rfl) ?_ hS ?_
  rotate_left
  · intro w' hSw; go_simp <;> with_reducible rfl
  simp only [Act.put, List.setIfInBounds_toArray, List.set_cons_zero, List.set_cons_succ]
  refine wpAnyH_yes (i := 1) (d := 41) (v := ?_) rfl rfl (by kernel_rfl) (by kernel_rfl) (by kernel_rfl) (fun _ _ _ h => h) (by rfl) ?_ hS ?_
  rotate_left
  · intro w' hSw; go_simp <;> with_reducible rfl
  simp only [Act.put, List.setIfInBounds_toArray, List.set_cons_zero, List.set_cons_succ]
  refine wpAnyH_yes (i := 2) (d := 42) (v := ?_) rfl rfl (by kernel_rfl) (by kernel_rfl) (by kernel_rfl) (fun _ _ _ h => h) (by rfl) ?_ hS ?_
  rotate_left
  · intro w' hSw; go_simp <;> with_reducible rfl
  simp only [Act.put, List.setIfInBounds_toArray, List.set_cons_zero, List.set_cons_succ]
  refine wpAnyH_yes (i := 3) (d := 43) (v := ?_) rfl rfl (by kernel_rfl) (by kernel_rfl) (by kernel_rfl) (fun _ _ _ h => h) (by rfl) ?_ hS ?_
  rotate_left
  · intro w' hSw; go_simp <;> with_reducible rfl
  simp only [Act.put, List.setIfInBounds_toArray, List.set_cons_zero, List.set_cons_succ]
  refine wpAnyH_yes (i := 4) (d := 44) (v := ?_) rfl rfl (by kernel_rfl) (by kernel_rfl) (by kernel_rfl) (fun _ _ _ h => h) (by rfl) ?_ hS ?_
  rotate_left
  · intro w' hSw; go_simp <;> with_reducible rfl
  simp only [Act.put, List.setIfInBounds_toArray, List.set_cons_zero, List.set_cons_succ]
  refine wpAnyH_no (i := 5) (d := 45) rfl rfl (by kernel_rfl) (by kernel_rfl) (by kernel_rfl) (fun _ _ _ h => h) (by rfl) hS ?_
  simp only [Act.put, List.setIfInBounds_toArray, List.set_cons_zero, List.set_cons_succ]
  refine wpAnyH_no (i := 6) (d := 46) rfl rfl (by kernel_rfl) (by kernel_rfl) (by kernel_rfl) (fun _ _ _ h => h) (by rfl) hS ?_
  simp only [Act.put, List.setIfInBounds_toArray, List.set_cons_zero, List.set_cons_succ]
  refine wpAnyH_no (i := 7) (d := 47) rfl rfl (by kernel_rfl) (by kernel_rfl) (by kernel_rfl) (fun _ _ _ h => h) (by rfl) hS ?_
  simp only [Act.put, List.setIfInBounds_toArray, List.set_cons_zero, List.set_cons_succ]
  refine wpAnyH_yes (i := 8) (d := 48) (v := ?_) rfl rfl (by kernel_rfl) (by kernel_rfl) (by kernel_rfl) (fun _ _ _ h => h) (by rfl) ?_ hS ?_
  rotate_left
  · intro w' hSw; go_simp <;> with_reducible rfl
  simp only [Act.put, List.setIfInBounds_toArray, List.set_cons_zero, List.set_cons_succ]
  refine wpAnyH_yes (i := 9) (d := 49) (v := ?_) rfl rfl (by kernel_rfl) (by kernel_rfl) (by kernel_rfl) (fun _ _ _ h => h) (by rfl) ?_ hS ?_
  rotate_left
  · intro w' hSw; go_simp <;> with_reducible rfl
  simp only [Act.put, List.setIfInBounds_toArray, List.set_cons_zero, List.set_cons_succ]
  refine wpAnyH_yes (i := 10) (d := 50) (v := ?_) rfl rfl (by kernel_rfl) (by kernel_rfl) (by kernel_rfl) (fun _ _ _ h => h) (by rfl) ?_ hS ?_
  rotate_left
  · intro w' hSw; go_simp <;> with_reducible rfl
  simp only [Act.put, List.setIfInBounds_toArray, List.set_cons_zero, List.set_cons_succ]
  refine wpAnyH_yes (i := 11) (d := 51) (v := ?_) rfl rfl (by kernel_rfl) (by kernel_rfl) (by kernel_rfl) (fun _ _ _ h => h) (by rfl) ?_ hS ?_
  rotate_left
  · intro w' hSw; go_simp <;> with_reducible rfl
  simp only [Act.put, List.setIfInBounds_toArray, List.set_cons_zero, List.set_cons_succ]
  refine wpAnyH_yes (i := 12) (d := 52) (v := ?_) rfl rfl (by kernel_rfl) (by kernel_rfl) (by kernel_rfl) (fun _ _ _ h => h) (by rfl) ?_ hS ?_
  rotate_left
  · intro w' hSw; go_simp <;> with_reducible rfl
  simp only [Act.put, List.setIfInBounds_toArray, List.set_cons_zero, List.set_cons_succ]
  refine wpAnyH_yes (i := 15) (d := 55) (v := ?_) rfl rfl (by kernel_rfl) (by kernel_rfl) (by kernel_rfl) (fun _ _ _ h => h) (by rfl) ?_ hS ?_
  rotate_left
  · intro w' hSw; go_simp <;> with_reducible rfl
  simp only [Act.put, List.setIfInBounds_toArray, List.set_cons_zero, List.set_cons_succ]
  refine wpAnyH_yes (i := 16) (d := 56) (v := ?_) rfl rfl (by kernel_rfl) (by kernel_rfl) (by kernel_rfl) (fun _ _ _ h => h) (by rfl) ?_ hS ?_
  rotate_left
  · intro w' hSw; go_simp <;> with_reducible rfl
  simp only [Act.put, List.setIfInBounds_toArray, List.set_cons_zero, List.set_cons_succ]
  refine wpAnyH_one (i := 13) (by kernel_rfl) rfl (by rfl) (fun K hK => ?_)
  go_simp
  with_reducible refine (seal_at _ (cs.take m) _ (m + 4) _ HT.out rfl (by omega) _ hS.2.1).mono ?_
  rintro e w5 ⟨g5, rfl, hg5, hb5, hB5⟩
  rw [HS.out] at hB5
  have hS5 := back_keep hS.1 hb5 hS.2.1 rd2 HL2.out cap2
  have hst5 := run_str (P := Try.prog) w5 _ cs (m + 4) (m + 4) hB5.rd (HL2.out.trans HM.out) 23 5 9 Try.underlying23 Try.underlying5 Try.underlying9
  go_wp2_with fail
  refine hK.out _ _ hS5 ?_
  refine wpAnyH_one (i := 14) (by kernel_rfl) rfl (by rfl) (fun K hK1 => ?_)
  go_simp
  refine hK1.out _ _ hS5 ?_
  refine wpAnyH_yes (i := 17) (d := 57) (v := ?_) rfl rfl (by kernel_rfl) (by kernel_rfl) (by kernel_rfl) (fun _ _ _ h => h) (by rfl) ?_ hS5 ?_
  rotate_left
  · intro w' hSw; go_simp <;> with_reducible rfl
  simp only [Act.put, List.setIfInBounds_toArray, List.set_cons_zero, List.set_cons_succ]
  refine wpAnyH_yes (i := 18) (d := 58) (v := ?_) rfl rfl (by kernel_rfl) (by kernel_rfl) (by kernel_rfl) (fun _ _ _ h => h) (by rfl) ?_ hS5 ?_
  rotate_left
  · intro w' hSw; go_simp <;> with_reducible rfl
  simp only [Act.put, List.setIfInBounds_toArray, List.set_cons_zero, List.set_cons_succ]
  refine wpAnyH_yes (i := 19) (d := 59) (v := ?_) rfl rfl (by kernel_rfl) (by kernel_rfl) (by kernel_rfl) (fun _ _ _ h => h) (by rfl) ?_ hS5 ?_
  rotate_left
  · intro w' hSw; go_simp <;> with_reducible rfl
  simp only [Act.put, List.setIfInBounds_toArray, List.set_cons_zero, List.set_cons_succ]
  refine wpAnyH_yes (i := 20) (d := 60) (v := ?_) rfl rfl (by kernel_rfl) (by kernel_rfl) (by kernel_rfl) (fun _ _ _ h => h) (by rfl) ?_ hS5 ?_
  rotate_left
  · intro w' hSw; go_simp <;> with_reducible rfl
  simp only [Act.put, List.setIfInBounds_toArray, List.set_cons_zero, List.set_cons_succ]
  refine wpAnyH_yes (i := 21) (d := 4) (v := ?_) rfl rfl (by kernel_rfl) (by kernel_rfl) (by kernel_rfl) (fun _ _ _ h => h) (by rfl) ?_ hS5 ?_
  rotate_left
  · intro w' hSw; go_simp <;> with_reducible rfl
  simp only [Act.put, List.setIfInBounds_toArray, List.set_cons_zero, List.set_cons_succ]
  refine wpAnyH_done (by kernel_rfl) ?_ _
  go_wp2_with fail
  go_ret
  exact ⟨rfl, hS5.1⟩
theorem walk_CrcBack (w : World) (a0 : Option Addr) (bs : List UInt8) (len cap : Nat) (hl : bs.length = len) (_hc : len ≤ cap) (_hm : cap ≤ 140737488351232) (rd : Rd w a0 bs)
    (a1 : Option Addr) (cs : List UInt8) (len2 cap2 : Nat) (hl2 : cs.length = len2) (hc2 : len2 ≤ cap2) (hm2 : cap2 ≤ 140737488351232) (rd2 : Rd w a1 cs) :
    Calls Try.prog 5 #[.slice a0 len cap, .slice a1 len2 cap2] w fun e w' => e = .returned (.bool true) ∧ Below w.heap.size w w' := by
  by_cases h : 1000 < len ∨ 1000 < len2
  · exact back_out w a0 a1 len cap len2 cap2 h
  · cases hg : Crc.good cs
    · exact back_bad w a0 a1 bs cs len cap len2 cap2 hl (by omega) rd hl2 hc2 (by omega) hm2 rd2 hg
    · exact back_good w a0 a1 bs cs len cap len2 cap2 hl (by omega) rd hl2 hc2 (by omega) hm2 rd2 hg

/-! ### The row's step. -/
namespace crcBack
theorem own : ownKnob Try.prog.godebug = none := by kernel_rfl
theorem laidOut : laidOutB Try.prog = true := by kernel_rfl
set_option linter.unusedVariables false in
set_option maxRecDepth 100000 in
theorem lifted (os : Os) (started : os.Started) (H : Type) (enc : TypeId × Value → H) :
    ReturnsInHanded {} Try.checked os 5 .any (Rows.crcBackSpec.pre6 enc Try.prog Try.f5 Rows.crcBackRow.domain false) (Rows.crcBackSpec.post enc Try.prog Try.f5 false true false false) := by
  refine returnsInHanded_of_change_sized (C := Try.checked) own started (by kernel_rfl) Try.func5
    (ChangeSpec.witness6 (enc := enc) (C := Try.checked) false ⟨#[], #[.slice none 0 0, .slice none 0 0], []⟩ 8 (by kernel_rfl) (by kernel_rfl) (by kernel_rfl) (by kernel_rfl)) ?_
  intro W base args ds gs before hval0 hW hcnd hsz0 _
  have hval : ∀ (j : Nat) t v, Try.f5.params[j]? = some t → args[j]? = some v → Value.okWide Try.prog W .any base t v := hval0
  have hsz : (DataW.weightsEach Try.prog (Try.f5.params.toList ++ Rows.crcBackSpec.plain.varTypes Try.prog) (ds ++ gs)).all (· ≤ reachBytes) = true := hsz0
  have hW' := hW
  obtain ⟨p, q, hA0, hV, rfl, hfz, hnd⟩ := hW
  have hA : DataW.TrodAll enc Try.prog W 0 (fun _ => true) true Try.f5.params.toList args.toList ds p := hA0
  rw [Try.params5] at hA hval hsz
  obtain ⟨v0, vs0, d0, ds0, p0, q0, hargs, rfl, rfl, h0, r0⟩ := trodAll_cons hA
  obtain ⟨v1, vs1, d1, ds1, p1, q1, rfl, rfl, rfl, h1, r1⟩ := trodAll_cons r0
  obtain ⟨rfl, rfl, rfl⟩ := trodAll_nil r1
  obtain rfl : args = #[v0, v1] := by cases args; simp_all
  obtain ⟨rfl, rfl⟩ := trodVars_none hV
  obtain ⟨a0, len0, cap0, rfl⟩ := okWide_slice Try.underlying23 (hval 0 23 v0 rfl rfl)
  have k0 := h0
  have lt0 : ∀ x ∈ p0, x.block < W.heap.size := by obtain ⟨m, hm⟩ := k0; exact DataW.trod_lt m _ _ _ hm
  obtain ⟨bs0, hl0, hc0, hm0, rd0⟩ : ∃ bs : List UInt8, bs.length = len0 ∧ len0 ≤ cap0 ∧ cap0 ≤ 140737488351232 ∧ Rd W a0 bs := by
    obtain ⟨fuel, hf⟩ := h0
    rcases open_ints Try.underlying23 Try.underlying5 (by kernel_rfl) hf with ⟨hcs, _⟩ | ⟨x, l, c, zs, hcs, _, hl, hm, hz, hx, hcell, hwz⟩
    · simp [Value.cells] at hcs
      obtain ⟨rfl, rfl, rfl⟩ := hcs
      exact ⟨[], rfl, by omega, by omega, .inl rfl⟩
    · simp [Value.cells] at hcs
      obtain ⟨rfl, rfl, rfl⟩ := hcs
      have hz' : zs.length = cap0 := by simpa using hz
      have hd : d0 = .slice (lits .u8 (zs.take len0)) (lits .u8 (zs.drop len0)) := congrArg Prod.fst hx
      have hb := sized_slice hsz (j := 0) (t := 23) (elems := lits .u8 (zs.take len0)) (spare := lits .u8 (zs.drop len0)) rfl (by rw [hd]; rfl) Try.underlying23
      have hb' : cap0 ≤ 140737488351232 := by
        rw [show Try.prog.bytesOf 5 = 1 from by kernel_rfl] at hb
        simp [lits, reachBytes] at hb; omega
      obtain ⟨bs, e1, e2⟩ := rd_of_ints hl hz' hcell hwz
      exact ⟨bs, e1, hl, hb', e2⟩
  obtain ⟨a1, len1, cap1, rfl⟩ := okWide_slice Try.underlying23 (hval 1 23 v1 rfl rfl)
  have k1 := h1
  have lt1 : ∀ x ∈ p1, x.block < W.heap.size := by obtain ⟨m, hm⟩ := k1; exact DataW.trod_lt m _ _ _ hm
  obtain ⟨bs1, hl1, hc1, hm1, rd1⟩ : ∃ bs : List UInt8, bs.length = len1 ∧ len1 ≤ cap1 ∧ cap1 ≤ 140737488351232 ∧ Rd W a1 bs := by
    obtain ⟨fuel, hf⟩ := h1
    rcases open_ints Try.underlying23 Try.underlying5 (by kernel_rfl) hf with ⟨hcs, _⟩ | ⟨x, l, c, zs, hcs, _, hl, hm, hz, hx, hcell, hwz⟩
    · simp [Value.cells] at hcs
      obtain ⟨rfl, rfl, rfl⟩ := hcs
      exact ⟨[], rfl, by omega, by omega, .inl rfl⟩
    · simp [Value.cells] at hcs
      obtain ⟨rfl, rfl, rfl⟩ := hcs
      have hz' : zs.length = cap1 := by simpa using hz
      have hd : d1 = .slice (lits .u8 (zs.take len1)) (lits .u8 (zs.drop len1)) := congrArg Prod.fst hx
      have hb := sized_slice hsz (j := 1) (t := 23) (elems := lits .u8 (zs.take len1)) (spare := lits .u8 (zs.drop len1)) rfl (by rw [hd]; rfl) Try.underlying23
      have hb' : cap1 ≤ 140737488351232 := by
        rw [show Try.prog.bytesOf 5 = 1 from by kernel_rfl] at hb
        simp [lits, reachBytes] at hb; omega
      obtain ⟨bs, e1, e2⟩ := rd_of_ints hl hz' hcell hwz
      exact ⟨bs, e1, hl, hb', e2⟩
  clear hA0 hval0
  refine (walk_CrcBack W a0 bs0 len0 cap0 hl0 hc0 hm0 rd0 a1 bs1 len1 cap1 hl1 hc1 hm1 rd1).mono fun e W' ⟨he, bel⟩ => ?_
  subst he
  exact ⟨_, rfl, _, _, _, [], _, [], hW', trodAll_mk1 (shut_bool Try.underlying4 _), (trodAll_cons_mk (Below.trod laidOut (by kernel_rfl) (of_decide_eq_true (by kernel_rfl)) k0 bel lt0) (trodAll_cons_mk (Below.trod laidOut (by kernel_rfl) (of_decide_eq_true (by kernel_rfl)) k1 bel lt1) trodAll_mk0)), rfl, bel.frame _, fun h => by cases h⟩
theorem over : Rows.crcBackRow.holds Try.pinned (OpenSpec.ofChange Rows.crcBackSpec) :=
  OpenClaim.holds_of_wide 5 Try.f5 rfl rfl rfl rfl rfl rfl rfl ⟨rfl, rfl, rfl, rfl, rfl⟩ rfl rfl rfl rfl rfl (by kernel_rfl) Try.func5 (by kernel_rfl)
    (of_decide_eq_true (by kernel_rfl)) (by unfold Func.isWrapper; first | (rw [if_pos (by decide +kernel)]; kernel_rfl) | (rw [if_neg (by decide +kernel)]; exact ⟨rfl, rfl⟩))
    (fun os started H enc _ => lifted os started H enc)
end crcBack
/-- THE STATEMENT. -/
theorem crcBack_holds : Rows.CrcBackSaid := crcBack.over
#print axioms crcBack_holds
end Go.Proofs.Ytkljekjgliebdaa
