/-
  What was framed is found as it was, one behind the other, and what follows is not touched: for any rows and any bytes behind the call of the law answers true, and all arguments read behind it as they read before. No condition.
-/
import Derived.Test.YtncpbmokbnjjoaaFSml
namespace Go.Proofs.Ytncpbmokbnjjoaa
open Go.RowKit Go.ChangeShapes Go.WideShapes Go.ChangeAt
theorem back_out (w : World) (A C : Option Addr) (la ca lb cb : Nat) (h : 20 < la ∨ 300 < lb) :
    Calls Try.prog 4 #[.slice A la ca, .slice C lb cb] w fun e w' => e = .returned (.bool true) ∧ Below w.heap.size w w' := by
  go_enter Try.func4, Try.ntmps4
  go_wp2_with fail
  refine (small_any _).mono ?_
  rintro e w1 ⟨rfl, hb1⟩
  by_cases h1 : (20 : Int) < (la : Int)
  · have hd1 : decide ((20 : Int) < (la : Int)) = true := by simpa using h1
    go_wp2_with fail
    go_ret
    exact ⟨rfl, hb1⟩
  · have hd1 : decide ((20 : Int) < (la : Int)) = false := by simpa using h1
    have hd3 : decide ((300 : Int) < (lb : Int)) = true := by simp; omega
    go_wp2_with fail
    go_ret
    exact ⟨rfl, hb1⟩
set_option maxRecDepth 100000 in
set_option maxHeartbeats 1600000 in
theorem back_in (w : World) (A C : Option Addr) (zss : List (List UInt8)) (cs : List UInt8) (la ca lb cb : Nat) (hl : zss.length = la) (ha : la ≤ 20) (rd : RdL w A zss) (hl2 : cs.length = lb) (hb : lb ≤ 300) (hcb : lb ≤ cb) (rd2 : Rd w C cs) :
    Calls Try.prog 4 #[.slice A la ca, .slice C lb cb] w fun e w' => e = .returned (.bool true) ∧ Below w.heap.size w w' := by
  have HL := Lib.hid hl
  have HL2 := Lib.hid hl2
  clear hl hl2
  have hd1 : decide ((20 : Int) < (la : Int)) = false := by simp; omega
  have hd2 : decide ((300 : Int) < (lb : Int)) = false := by simp; omega
  obtain ⟨i0, hi0, hz0, hz1, hz2⟩ := info_parts byte_info
  obtain ⟨j0, hj0, hy0, hy1, hy2⟩ := info_parts row_info
  go_enter Try.func4, Try.ntmps4
  go_wp2_with fail
  refine (small_any _).mono ?_
  rintro e w1 ⟨rfl, hb1⟩
  go_wp2_with fail
  go_loopw [6, 7] (fun v i wr => ∃ k : Nat, k ≤ la ∧ i = .int .i64 (k : Int) ∧ Below w.heap.size w wr ∧ Own wr w.heap.size 5 v (Frm.frames (zss.take k)) ∧ ∀ x ∈ zss.take k, x.length ≤ 300) (fun _ i _ => la - (intOf i).toNat)
  case atStart => exact ⟨0, by omega, rfl, hb1, Own.none_ _ _ _, by simp⟩
  case round =>
    obtain ⟨k, hk, rfl, hbw, hO, hsh⟩ := hrel
    by_cases hlt : k < la
    · obtain ⟨g1, o1, B1, c1, rfl, hg1, hc1, hl1, hr1⟩ := (rd.below hbw).at_ (k := k) (by rw [HL.out]; exact hlt)
      have HT : Hid (zss.take (k + 1) = zss.take k ++ [zss[k]'(by rw [HL.out]; exact hlt)]) := List.take_succ_eq_append_getElem _
      generalize zss[k]'(by rw [HL.out]; exact hlt) = x at *
      obtain ⟨q, hq⟩ : ∃ q, x.length = q := ⟨_, rfl⟩
      have HQ := Lib.hid hq
      rw [hq] at hc1
      clear hq hl1
      by_cases h3 : 300 < q
      · have hd3 : decide ((300 : Int) < (q : Int)) = true := by simp; omega
        go_wp2_with fail
        go_ret
        exact ⟨rfl, hbw⟩
      · have hd3 : decide ((300 : Int) < (q : Int)) = false := by simp; omega
        have hsz : (Frm.frames (zss.take k)).length ≤ 20 * 310 := Frm.frames_length _ 300 20 hsh (by simp; omega)
        have HSZ := Lib.hid hsz
        have HSH := Lib.hid hsh
        clear hsz hsh
        have HO := Lib.hid hO
        clear hO
        go_wp2_with fail
        refine (make_at B1 x q (q + 10) c1 HQ.out (by omega) rfl _ hr1).mono ?_
        rintro e w2 ⟨g2, rfl, hg2, hb2, hB2⟩
        have hc2 := (hb2.cell (p := ⟨g1, o1 + k, none⟩) hg1).trans hc1
        have hO2 := HO.out.below hb2
        have hb2w := below_next hbw (Nat.le_refl _) hb2
        have hr2 := hB2.rd
        have HX : Hid ((Frm.frame x).length = q + 10) := by rw [Hid, Frm.frame_length, HQ.out]
        have hne : ((q : Int) + 10 != 10 + (q : Int)) = false := by rw [Int.add_comm]; simp
        clear hB2 hr1 hc1 hg2
        go_wp2_with (at_builtin; refine wpList_append_rd rfl (.tmp 60) (.tmp 61) 22 rfl w.heap.size 5 i0 Try.underlying22 hi0 hz0 hz1 hz2 _ (Frm.frames (zss.take k)) (by rfl) hO2 (some ⟨g2, 0, none⟩) (Frm.frame x) (q + 10) (q + 10) (by rfl) hr2 HX.out (by have := HSZ.out; omega) hb2w.size ?_; intro v3 w3 hO3 hb3' _ _)
        have hb3 := hb3' w hb2w
        go_roundw
        case rel =>
          refine ⟨k + 1, by omega, by go_num, hb3, ?_, ?_⟩
          · rw [HT.out, Frm.frames_snoc]; exact hO3
          · rw [HT.out]
            intro y hy
            rcases List.mem_append.1 hy with h | h
            · exact HSH.out y h
            · simp at h; subst h; rw [HQ.out]; omega
        case measure => simp [intOf]; omega
    · obtain rfl : k = la := by omega
      rw [List.take_of_length_le (by rw [HL.out]; exact Nat.le_refl _)] at hO hsh
      clear hlt hk hb1
      have HFR := Lib.hid (Frm.all_frames zss [] (fun r hr => Nat.le_trans (hsh r hr) (by decide)))
      have HFM := Lib.hid (Frm.all_frames zss cs (fun r hr => Nat.le_trans (hsh r hr) (by decide)))
      have hN1 : (Frm.frames zss).length ≤ 20 * 310 := Frm.frames_length _ 300 20 hsh (by rw [HL.out]; exact ha)
      obtain ⟨N, hN⟩ : ∃ N, (Frm.frames zss).length = N := ⟨_, rfl⟩
      have HN := Lib.hid hN
      rw [hN] at hN1
      have HALL : Hid (Frm.all (Frm.frames zss) = (zss, N, 0)) := by
        have := HFR.out
        rw [List.append_nil, Frm.all_nil] at this
        rw [Hid, this, HN.out]; simp
      obtain ⟨xm, km, em, hm⟩ : ∃ xm km em, Frm.all cs = (xm, km, em) := ⟨_, _, _, rfl⟩
      have HM := Lib.hid hm
      have HALL2 : Hid (Frm.all (Frm.frames zss ++ cs) = (zss ++ xm, N + km, em)) := by rw [Hid, HFM.out, HM.out, HN.out]
      clear hN hm hsh
      obtain ⟨Ab, cb6, rfl, hcb6, hr6⟩ := hO.rd
      rw [HN.out] at hcb6
      have HO := Lib.hid hO
      clear hO
      rw [HN.out]
      go_wp2_with fail
      refine (all_at Ab (Frm.frames zss) N k N 0 cb6 zss HN.out hcb6 (by omega) (by omega) _ hr6 HALL.out HL.out).mono ?_
      rintro e w2 ⟨B2, c2, rfl, hc2, hR2, hb2⟩
      have hO2 := HO.out.below hb2
      replace hb2 := below_next hbw (Nat.le_refl _) hb2
      clear hr6 HO hbw
      go_wp2_with fail
      refine (same_at B2 A zss k c2 ca HL.out (by omega) _ hR2 (rd.below hb2)).mono ?_
      rintro e w3 ⟨rfl, hb3⟩
      replace hO2 := hO2.below hb3
      replace hb3 := below_next hb2 (Nat.le_refl _) hb3
      clear hb2 hR2
      rw [HN.out] at hO2
      have hra := rd2.below hb3
      have hle := Frm.all_le cs
      rw [HM.out, HL2.out] at hle
      obtain ⟨q, hq⟩ : ∃ q, xm.length = q := ⟨_, rfl⟩
      have HQ := Lib.hid hq
      have hq3 : q ≤ lb := by rw [← hq]; exact hle.1
      have hkm : km ≤ lb := hle.2
      clear hq hle
      go_wp2_with (at_builtin; refine wpList_append_rd rfl (.tmp 83) (.tmp 84) 22 rfl w.heap.size 5 i0 Try.underlying22 hi0 hz0 hz1 hz2 (.slice Ab N cb6) (Frm.frames zss) (by rfl) hO2 C cs lb cb (by rfl) hra HL2.out (by rw [HN.out]; omega) hb3.size ?_; intro v4 w4 hO4 hb4' _ _)
      have hb4 := hb4' w hb3
      obtain ⟨A4, c4, rfl, hc4, hr4⟩ := hO4.rd
      have HN4 : Hid ((Frm.frames zss ++ cs).length = N + lb) := by rw [Hid, List.length_append, HN.out, HL2.out]
      rw [HN4.out] at hc4 ⊢
      clear hb4' hO4 hO2 hb3 hra
      refine (all_at A4 (Frm.frames zss ++ cs) (N + lb) (k + q) (N + km) em c4 (zss ++ xm) HN4.out hc4 (by omega) (by omega) _ hr4 HALL2.out (by rw [List.length_append, HL.out, HQ.out])).mono ?_
      rintro e w5 ⟨B5, c5, rfl, hc5, hR5, hb5⟩
      replace hb5 := below_next hb4 (Nat.le_refl _) hb5
      clear hb4 hr4
      go_wp2_with fail
      refine (all_at C cs lb q km em cb xm HL2.out hcb (by omega) (by omega) _ (rd2.below hb5) HM.out HQ.out).mono ?_
      rintro e w6 ⟨B6, c6, rfl, hc6, hR6, hb6⟩
      replace hR5 := hR5.below hb6
      replace hb6 := below_next hb5 (Nat.le_refl _) hb6
      clear hb5
      obtain ⟨vs1, hv1, hE1⟩ := (rd.below hb6).open_
      obtain ⟨vs2, hv2, hE2⟩ := hR6.open_
      have hv1' := fun o : Obj => hv1.below ((Below.refl _ w6).alloc (Nat.le_refl _) o)
      have H1 : Hid (vs1.length = k) := by rw [Hid, hE1.1, HL.out]
      have H2 : Hid (vs2.length = q) := by rw [Hid, hE2.1, HQ.out]
      have hmade := World.ownsRow_made (e := 22) (size := 1) (base := w6.heap.size) w6 #[] 0 (Nat.le_refl _) (by decide) rfl
      have heq : ((N : Int) + (km : Int) == (N : Int) + (lb : Int) - (lb : Int) + (km : Int)) = true := by simp
      go_wp2_with (first
        | (at_builtin; refine wpList_append_v (by rfl) (.tmp 101) (.tmp 102) 29 rfl w6.heap.size 22 j0 (.slice none 0 0) 24 Try.underlying29 hj0 hy0 hy1 hy2 rfl (.slice (some ⟨w6.heap.size, 0, none⟩) 0 0) [] 0 (by rfl) hmade A vs1 k ca (by rfl) (hv1' _) H1.out hE1.one (by unfold maxLen; omega) (by omega) (by simp) ?_; intro v7 w7 hO7 hb7'; have hb7 := hb7' w6 ((Below.refl _ _).alloc (Nat.le_refl _) _); clear hb7'; simp only [List.nil_append, Nat.zero_add] at hO7)
        | (at_builtin; refine wpList_append_v (by rfl) (.tmp 103) (.tmp 104) 29 rfl w6.heap.size 22 j0 (.slice none 0 0) 24 Try.underlying29 hj0 hy0 hy1 hy2 rfl v7 vs1 k (by rfl) hO7 B6 vs2 q c6 (by rfl) (hv2.below hb7) H2.out hE2.one (by unfold maxLen; omega) (by omega) hb7.size ?_; intro v8 w8 hO8 hb8'; have hb8 := hb8' w6 hb7; clear hb8'))
      have hEach := (hE1.append hE2).below hb8
      obtain ⟨B8, c8, rfl, _, hR8⟩ := rdl_of_row hEach (by rw [List.length_append, HL.out, HQ.out]) hO8
      refine (same_at B5 B8 (zss ++ xm) (k + q) c5 c8 (by rw [List.length_append, HL.out, HQ.out]) (by omega) _ (hR5.below hb8) hR8).mono ?_
      rintro e w9 ⟨rfl, hb9⟩
      replace hb9 := below_next (below_next hb6 (Nat.le_refl _) hb8) (Nat.le_refl _) hb9
      clear hEach hO7 hO8 hb8 hb7 hb6 hR5 hR8 hmade hv1 hv1' hv2 hE1 hE2
      go_wp2_with fail
      go_ret
      exact ⟨rfl, hb9⟩
theorem walk_FrameBack (w : World) (A : Option Addr) (zss : List (List UInt8)) (la ca : Nat) (hl : zss.length = la) (_ : la ≤ ca) (_ : ca ≤ maxLen) (rd : RdL w A zss)
    (C : Option Addr) (cs : List UInt8) (lb cb : Nat) (hl2 : cs.length = lb) (hcb : lb ≤ cb) (_ : cb ≤ 140737488351232) (rd2 : Rd w C cs) :
    Calls Try.prog 4 #[.slice A la ca, .slice C lb cb] w fun e w' => e = .returned (.bool true) ∧ Below w.heap.size w w' := by
  by_cases h : 20 < la ∨ 300 < lb
  · exact back_out w A C la ca lb cb h
  · exact back_in w A C zss cs la ca lb cb hl (by omega) rd hl2 (by omega) hcb rd2

/-! ### The row's step. -/
namespace frameBack
theorem own : ownKnob Try.prog.godebug = none := by kernel_rfl
theorem laidOut : laidOutB Try.prog = true := by kernel_rfl
set_option linter.unusedVariables false in
set_option maxRecDepth 100000 in
theorem lifted (os : Os) (started : os.Started) (H : Type) (enc : TypeId × Value → H) :
    ReturnsInHanded {} Try.checked os 4 .any (Rows.frameBackSpec.pre6 enc Try.prog Try.f4 Rows.frameBackRow.domain false) (Rows.frameBackSpec.post enc Try.prog Try.f4 false true false false) := by
  refine returnsInHanded_of_change_sized (C := Try.checked) own started (by kernel_rfl) Try.func4
    (ChangeSpec.witness6 (enc := enc) (C := Try.checked) false ⟨#[], #[.slice none 0 0, .slice none 0 0], []⟩ 8 (by kernel_rfl) (by kernel_rfl) (by kernel_rfl) (by kernel_rfl)) ?_
  intro W base args ds gs before hval0 hW hcnd hsz0 _
  have hval : ∀ (j : Nat) t v, Try.f4.params[j]? = some t → args[j]? = some v → Value.okWide Try.prog W .any base t v := hval0
  have hsz : (DataW.weightsEach Try.prog (Try.f4.params.toList ++ Rows.frameBackSpec.plain.varTypes Try.prog) (ds ++ gs)).all (· ≤ reachBytes) = true := hsz0
  have hW' := hW
  obtain ⟨p, q, hA0, hV, rfl, hfz, hnd⟩ := hW
  have hA : DataW.TrodAll enc Try.prog W 0 (fun _ => true) true Try.f4.params.toList args.toList ds p := hA0
  rw [Try.params4] at hA hval hsz
  obtain ⟨v0, vs0, d0, ds0, p0, q0, hargs, rfl, rfl, h0, r0⟩ := trodAll_cons hA
  obtain ⟨v1, vs1, d1, ds1, p1, q1, rfl, rfl, rfl, h1, r1⟩ := trodAll_cons r0
  obtain ⟨rfl, rfl, rfl⟩ := trodAll_nil r1
  obtain rfl : args = #[v0, v1] := by cases args; simp_all
  obtain ⟨rfl, rfl⟩ := trodVars_none hV
  obtain ⟨a0, len0, cap0, rfl⟩ := okWide_slice Try.underlying29 (hval 0 29 v0 rfl rfl)
  have k0 := h0
  have lt0 : ∀ x ∈ p0, x.block < W.heap.size := by obtain ⟨m, hm⟩ := k0; exact DataW.trod_lt m _ _ _ hm
  obtain ⟨zss0, hl0, hc0, hm0, rd0⟩ := open_rows_of Try.underlying29 Try.underlying22 Try.underlying5 (by kernel_rfl) (by kernel_rfl) k0
  obtain ⟨a1, len1, cap1, rfl⟩ := okWide_slice Try.underlying22 (hval 1 22 v1 rfl rfl)
  have k1 := h1
  have lt1 : ∀ x ∈ p1, x.block < W.heap.size := by obtain ⟨m, hm⟩ := k1; exact DataW.trod_lt m _ _ _ hm
  obtain ⟨bs1, hl1, hc1, hm1, rd1⟩ : ∃ bs : List UInt8, bs.length = len1 ∧ len1 ≤ cap1 ∧ cap1 ≤ 140737488351232 ∧ Rd W a1 bs := by
    obtain ⟨fuel, hf⟩ := h1
    rcases open_ints Try.underlying22 Try.underlying5 (by kernel_rfl) hf with ⟨hcs, _⟩ | ⟨x, l, c, zs, hcs, _, hl, hm, hz, hx, hcell, hwz⟩
    · simp [Value.cells] at hcs
      obtain ⟨rfl, rfl, rfl⟩ := hcs
      exact ⟨[], rfl, by omega, by omega, .inl rfl⟩
    · simp [Value.cells] at hcs
      obtain ⟨rfl, rfl, rfl⟩ := hcs
      have hz' : zs.length = cap1 := by simpa using hz
      have hd : d1 = .slice (lits .u8 (zs.take len1)) (lits .u8 (zs.drop len1)) := congrArg Prod.fst hx
      have hb := sized_slice hsz (j := 1) (t := 22) (elems := lits .u8 (zs.take len1)) (spare := lits .u8 (zs.drop len1)) rfl (by rw [hd]; rfl) Try.underlying22
      have hb' : cap1 ≤ 140737488351232 := by
        rw [show Try.prog.bytesOf 5 = 1 from by kernel_rfl] at hb
        simp [lits, reachBytes] at hb; omega
      obtain ⟨bs, e1, e2⟩ := rd_of_ints hl hz' hcell hwz
      exact ⟨bs, e1, hl, hb', e2⟩
  clear hA0 hval0
  refine (walk_FrameBack W a0 zss0 len0 cap0 hl0 hc0 hm0 rd0 a1 bs1 len1 cap1 hl1 hc1 hm1 rd1).mono fun e W' ⟨he, bel⟩ => ?_
  subst he
  exact ⟨_, rfl, _, _, _, [], _, [], hW', trodAll_mk1 (shut_bool Try.underlying4 _), (trodAll_cons_mk (Below.trod laidOut (by kernel_rfl) (of_decide_eq_true (by kernel_rfl)) k0 bel lt0) (trodAll_cons_mk (Below.trod laidOut (by kernel_rfl) (of_decide_eq_true (by kernel_rfl)) k1 bel lt1) trodAll_mk0)), rfl, bel.frame _, fun h => by cases h⟩
theorem over : Rows.frameBackRow.holds Try.pinned (OpenSpec.ofChange Rows.frameBackSpec) :=
  OpenClaim.holds_of_wide 4 Try.f4 rfl rfl rfl rfl rfl rfl rfl ⟨rfl, rfl, rfl, rfl, rfl⟩ rfl rfl rfl rfl rfl (by kernel_rfl) Try.func4 (by kernel_rfl)
    (of_decide_eq_true (by kernel_rfl)) (by unfold Func.isWrapper; first | (rw [if_pos (by decide +kernel)]; kernel_rfl) | (rw [if_neg (by decide +kernel)]; exact ⟨rfl, rfl⟩))
    (fun os started H enc _ => lifted os started H enc)
end frameBack
/-- THE STATEMENT. -/
theorem frameBack_holds : Rows.FrameBackSaid := frameBack.over
#print axioms frameBack_holds
end Go.Proofs.Ytncpbmokbnjjoaa
