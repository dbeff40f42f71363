/-
  Frames, and what is found first and in all, are as the document's own answers tell them: for all bytes the call of the law answers true, and all arguments read behind it as they read before. No condition.
-/
import Derived.Test.YtncpbmokbnjjoaaFSml
import Derived.Test.YtncpbmokbnjjoaaFAny
namespace Go.Proofs.Ytncpbmokbnjjoaa
open Go.RowKit Go.ChangeShapes Go.WideShapes Go.ChangeAt
theorem makes_out (w : World) (A C : Option Addr) (la ca lc cc : Nat) (h : 9000 < la ∨ 2000 < lc) :
    Calls Try.prog 3 #[.slice A la ca, .slice C lc cc] w fun e w' => e = .returned (.bool true) ∧ Below w.heap.size w w' := by
  go_enter Try.func3, Try.ntmps3
  go_wp2_with fail
  refine (small_any _).mono ?_
  rintro e w1 ⟨rfl, hb1⟩
  by_cases h1 : (9000 : Int) < (la : Int)
  · have hd1 : decide ((9000 : Int) < (la : Int)) = true := by simpa using h1
    go_wp2_with fail
    go_ret
    exact ⟨rfl, hb1⟩
  · have hd1 : decide ((9000 : Int) < (la : Int)) = false := by simpa using h1
    have hd3 : decide ((2000 : Int) < (lc : Int)) = true := by simp; omega
    go_wp2_with fail
    go_ret
    exact ⟨rfl, hb1⟩
set_option maxRecDepth 100000 in
set_option maxHeartbeats 1600000 in
theorem makes_in (w : World) (A C : Option Addr) (bs cs : List UInt8) (la ca lc cc m x q z y k c1 c2 : Nat) (xss : List (List UInt8)) (hl : bs.length = la) (ha : la ≤ 9000) (rd : Rd w A bs) (hl2 : cs.length = lc) (hb : lc ≤ 2000) (hcc : lc ≤ cc) (rd2 : Rd w C cs)
    (hm : (mk bs).length = m) (hx : mkErr bs = x) (hq : (nx cs).length = q) (hz : nxAt cs = z) (hy : Frm.err cs = y) (hall : Frm.all cs = (xss, c1, c2)) (hk : xss.length = k) (hmm : m ≤ 8202) (hkk : k ≤ lc) :
    Calls Try.prog 3 #[.slice A la ca, .slice C lc cc] w fun e w' => e = .returned (.bool true) ∧ Below w.heap.size w w' := by
  have HL := Lib.hid hl
  have HL2 := Lib.hid hl2
  have HM := Lib.hid hm
  have HX := Lib.hid hx
  have HQ := Lib.hid hq
  have HZ := Lib.hid hz
  have HY := Lib.hid hy
  have HA := Lib.hid hall
  have HK := Lib.hid hk
  clear hl hl2 hm hx hq hz hy hall hk
  have hd1 : decide ((9000 : Int) < (la : Int)) = false := by simp; omega
  have hd2 : decide ((2000 : Int) < (lc : Int)) = false := by simp; omega
  go_enter Try.func3, Try.ntmps3
  go_wp2_with fail
  refine (small_any _).mono ?_
  rintro e w1 ⟨rfl, hb1⟩
  go_wp2_with fail
  refine (make_all A bs la m x ca HL.out HM.out HX.out _ (rd.below hb1)).mono ?_
  rintro e w2 ⟨D, g, rfl, hg, hb2, hD, hB⟩
  have hgw := Nat.le_trans hb1.size hg
  replace hb2 := below_next hb1 (Nat.le_refl _) hb2
  have HB := Lib.hid hB
  clear hB hb1 hg
  go_wp2_with fail
  refine (rmake_all A bs la m x ca HL.out HM.out HX.out _ (rd.below hb2)).mono ?_
  rintro e w3 ⟨B, cB, rfl, hb3, hO⟩
  have HB3 : Hid (0 < m → D = some ⟨g, 0, none⟩ ∧ Blk w3 g 5 ((mk bs).map Bv).toArray ∧ g < w2.heap.size) := fun h => by
    obtain ⟨e, hB⟩ := HB.out h
    exact ⟨e, hB.below hb3 hB.lt, hB.lt⟩
  have HNE : Hid (∀ off, B ≠ some ⟨g, off, none⟩ ∨ mk bs = []) := fun off => by
    by_cases h0 : m = 0
    · exact .inr (List.eq_nil_of_length_eq_zero (by rw [HM.out]; exact h0))
    · left
      intro e
      obtain ⟨_, _, h2⟩ := HB3.out (by omega)
      have := hO.base_le g (by rw [e]; rfl)
      omega
  have hY : Rd w3 B (mk bs) := by
    obtain ⟨B', c', e', _, h4⟩ := hO.rd
    injection e' with e1
    subst e1
    exact h4
  replace hD := hD.below hb3
  replace hb3 := below_next hb2 (Nat.le_refl _) hb3
  clear HB hb2 hO
  go_wp2_with fail
  refine (next_all C cs lc q z y cc HL2.out hcc (by omega) HQ.out HZ.out HY.out _ (rd2.below hb3)).mono ?_
  rintro e w4 ⟨P, rfl, hb4, hP⟩
  have HB4 : Hid (0 < m → D = some ⟨g, 0, none⟩ ∧ Blk w4 g 5 ((mk bs).map Bv).toArray) := fun h => by
    obtain ⟨e, hB, _⟩ := HB3.out h
    exact ⟨e, hB.below hb4 hB.lt⟩
  replace hY := hY.below hb4
  replace hD := hD.below hb4
  replace hb4 := below_next hb3 (Nat.le_refl _) hb4
  clear HB3 hb3
  go_wp2_with fail
  refine (rnext_all C cs lc q z y cc HL2.out hcc (by omega) HQ.out HZ.out HY.out _ (rd2.below hb4)).mono ?_
  rintro e w5 ⟨O, cO, rfl, hb5, hO⟩
  have HB5 : Hid (0 < m → D = some ⟨g, 0, none⟩ ∧ Blk w5 g 5 ((mk bs).map Bv).toArray) := fun h => by
    obtain ⟨e, hB⟩ := HB4.out h
    exact ⟨e, hB.below hb5 hB.lt⟩
  replace hY := hY.below hb5
  replace hD := hD.below hb5
  replace hP := hP.below hb5
  replace hb5 := below_next hb4 (Nat.le_refl _) hb5
  clear HB4 hb4
  go_wp2_with fail
  refine (all_at C cs lc k c1 c2 cc xss HL2.out hcc (by omega) (by omega) _ (rd2.below hb5) HA.out HK.out).mono ?_
  rintro e w6 ⟨L1, d1, rfl, _, hR1, hb6⟩
  have HB6 : Hid (0 < m → D = some ⟨g, 0, none⟩ ∧ Blk w6 g 5 ((mk bs).map Bv).toArray) := fun h => by
    obtain ⟨e, hB⟩ := HB5.out h
    exact ⟨e, hB.below hb6 hB.lt⟩
  replace hY := hY.below hb6
  replace hD := hD.below hb6
  replace hP := hP.below hb6
  replace hO := hO.below hb6
  replace hb6 := below_next hb5 (Nat.le_refl _) hb6
  clear HB5 hb5
  go_wp2_with fail
  refine (rall_at C cs lc k c1 c2 cc xss HL2.out hcc (by omega) _ (rd2.below hb6) HA.out HK.out).mono ?_
  rintro e w7 ⟨L2, d2, rfl, _, hR2, hb7⟩
  have HB7 : Hid (0 < m → D = some ⟨g, 0, none⟩ ∧ Blk w7 g 5 ((mk bs).map Bv).toArray) := fun h => by
    obtain ⟨e, hB⟩ := HB6.out h
    exact ⟨e, hB.below hb7 hB.lt⟩
  replace hY := hY.below hb7
  replace hD := hD.below hb7
  replace hP := hP.below hb7
  replace hO := hO.below hb7
  replace hR1 := hR1.below hb7
  replace hb7 := below_next hb6 (Nat.le_refl _) hb7
  clear HB6 hb6
  have s1 := str_below m hD HM.out (Below.refl _ _)
  have s2 := str_below cB hY HM.out (Below.refl _ _)
  have s3 := str_below q hP HQ.out (Below.refl _ _)
  have s4 := str_below cO hO HQ.out (Below.refl _ _)
  go_wp2_with fail
  refine (same_at L1 L2 xss k d1 d2 HK.out (by omega) _ hR1 hR2).mono ?_
  rintro e w8 ⟨rfl, hb8⟩
  have HB8 : Hid (0 < m → D = some ⟨g, 0, none⟩ ∧ ∃ cells : Array Value, Blk w8 g 5 cells ∧ Hid (cells.size = m)) := fun h => by
    obtain ⟨e, hB⟩ := HB7.out h
    exact ⟨e, _, hB.below hb8 hB.lt, by rw [Hid, List.size_toArray, List.length_map]; exact HM.out⟩
  replace hY := hY.below hb8
  replace hb8 := below_next hb7 (Nat.le_refl _) hb8
  clear HB7 hb7 hD hP hO hR1 hR2 s1 s2 s3 s4
  go_wp2_with fail
  go_loopw [23] (fun i wr => ∃ j : Nat, j ≤ m ∧ i = .int .i64 (j : Int) ∧ Touch g w8 wr ∧ Hid (0 < m → D = some ⟨g, 0, none⟩ ∧ ∃ cells : Array Value, Blk wr g 5 cells ∧ Hid (cells.size = m))) (fun i _ => m - (intOf i).toNat)
  case atStart => exact ⟨0, by omega, rfl, Touch.refl _ _, HB8⟩
  case round =>
    obtain ⟨j, hj, rfl, hT, HC⟩ := hrel
    by_cases hlt : j < m
    · obtain ⟨rfl, cells, hB, HS⟩ := HC.out (by omega)
      have hin : j < cells.size := by rw [HS.out]; exact hlt
      obtain ⟨u, hc⟩ : ∃ u, wr.cell? ⟨g, j, none⟩ = some u := ⟨_, (hB.cell j).trans (Array.getElem?_eq_getElem hin)⟩
      have hf := hB.frozen j
      clear hin
      go_wp2_with fail
      go_roundw
      case rel =>
        refine ⟨j + 1, by omega, by go_num, hT.set_ _ _, fun _ => ⟨by trivial, _, hB.put j _, ?_⟩⟩
        rw [Hid, Array.size_setIfInBounds]; exact HS.out
      case measure => simp [intOf]; omega
    · obtain rfl : j = m := by omega
      have hbr := hT.below hb8 hb8.size hgw
      have hYr := hT.rd hY HNE.out
      clear hT HC hY hb8 HB8
      go_wp2_with fail
      refine (make_all A bs la j x ca HL.out HM.out HX.out _ (rd.below hbr)).mono ?_
      rintro e w9 ⟨D9, g9, rfl, _, hb9, hD9, _⟩
      have s1 := str_below j hD9 HM.out (Below.refl _ _)
      have s2 := str_below cB hYr HM.out hb9
      replace hb9 := below_next hbr (Nat.le_refl _) hb9
      go_wp2_with fail
      go_ret
      exact ⟨rfl, hb9⟩
theorem walk_FrameMakes (w : World) (A : Option Addr) (bs : List UInt8) (la ca : Nat) (hl : bs.length = la) (_ : la ≤ ca) (_ : ca ≤ 140737488351232) (rd : Rd w A bs)
    (C : Option Addr) (cs : List UInt8) (lc cc : Nat) (hl2 : cs.length = lc) (hcc : lc ≤ cc) (_ : cc ≤ 140737488351232) (rd2 : Rd w C cs) :
    Calls Try.prog 3 #[.slice A la ca, .slice C lc cc] w fun e w' => e = .returned (.bool true) ∧ Below w.heap.size w w' := by
  by_cases h : 9000 < la ∨ 2000 < lc
  · exact makes_out w A C la ca lc cc h
  · have hle := Frm.all_le cs
    rw [hl2] at hle
    exact makes_in w A C bs cs la ca lc cc _ _ _ _ _ _ _ _ _ hl (by omega) rd hl2 (by omega) hcc rd2 rfl rfl rfl rfl rfl rfl rfl (mk_length bs) hle.1

/-! ### The row's step. -/
namespace frameMakes
theorem own : ownKnob Try.prog.godebug = none := by kernel_rfl
theorem laidOut : laidOutB Try.prog = true := by kernel_rfl
set_option linter.unusedVariables false in
set_option maxRecDepth 100000 in
theorem lifted (os : Os) (started : os.Started) (H : Type) (enc : TypeId × Value → H) :
    ReturnsInHanded {} Try.checked os 3 .any (Rows.frameMakesSpec.pre6 enc Try.prog Try.f3 Rows.frameMakesRow.domain false) (Rows.frameMakesSpec.post enc Try.prog Try.f3 false true false false) := by
  refine returnsInHanded_of_change_sized (C := Try.checked) own started (by kernel_rfl) Try.func3
    (ChangeSpec.witness6 (enc := enc) (C := Try.checked) false ⟨#[], #[.slice none 0 0, .slice none 0 0], []⟩ 8 (by kernel_rfl) (by kernel_rfl) (by kernel_rfl) (by kernel_rfl)) ?_
  intro W base args ds gs before hval0 hW hcnd hsz0 _
  have hval : ∀ (j : Nat) t v, Try.f3.params[j]? = some t → args[j]? = some v → Value.okWide Try.prog W .any base t v := hval0
  have hsz : (DataW.weightsEach Try.prog (Try.f3.params.toList ++ Rows.frameMakesSpec.plain.varTypes Try.prog) (ds ++ gs)).all (· ≤ reachBytes) = true := hsz0
  have hW' := hW
  obtain ⟨p, q, hA0, hV, rfl, hfz, hnd⟩ := hW
  have hA : DataW.TrodAll enc Try.prog W 0 (fun _ => true) true Try.f3.params.toList args.toList ds p := hA0
  rw [Try.params3] at hA hval hsz
  obtain ⟨v0, vs0, d0, ds0, p0, q0, hargs, rfl, rfl, h0, r0⟩ := trodAll_cons hA
  obtain ⟨v1, vs1, d1, ds1, p1, q1, rfl, rfl, rfl, h1, r1⟩ := trodAll_cons r0
  obtain ⟨rfl, rfl, rfl⟩ := trodAll_nil r1
  obtain rfl : args = #[v0, v1] := by cases args; simp_all
  obtain ⟨rfl, rfl⟩ := trodVars_none hV
  obtain ⟨a0, len0, cap0, rfl⟩ := okWide_slice Try.underlying22 (hval 0 22 v0 rfl rfl)
  have k0 := h0
  have lt0 : ∀ x ∈ p0, x.block < W.heap.size := by obtain ⟨m, hm⟩ := k0; exact DataW.trod_lt m _ _ _ hm
  obtain ⟨bs0, hl0, hc0, hm0, rd0⟩ : ∃ bs : List UInt8, bs.length = len0 ∧ len0 ≤ cap0 ∧ cap0 ≤ 140737488351232 ∧ Rd W a0 bs := by
    obtain ⟨fuel, hf⟩ := h0
    rcases open_ints Try.underlying22 Try.underlying5 (by kernel_rfl) hf with ⟨hcs, _⟩ | ⟨x, l, c, zs, hcs, _, hl, hm, hz, hx, hcell, hwz⟩
    · simp [Value.cells] at hcs
      obtain ⟨rfl, rfl, rfl⟩ := hcs
      exact ⟨[], rfl, by omega, by omega, .inl rfl⟩
    · simp [Value.cells] at hcs
      obtain ⟨rfl, rfl, rfl⟩ := hcs
      have hz' : zs.length = cap0 := by simpa using hz
      have hd : d0 = .slice (lits .u8 (zs.take len0)) (lits .u8 (zs.drop len0)) := congrArg Prod.fst hx
      have hb := sized_slice hsz (j := 0) (t := 22) (elems := lits .u8 (zs.take len0)) (spare := lits .u8 (zs.drop len0)) rfl (by rw [hd]; rfl) Try.underlying22
      have hb' : cap0 ≤ 140737488351232 := by
        rw [show Try.prog.bytesOf 5 = 1 from by kernel_rfl] at hb
        simp [lits, reachBytes] at hb; omega
      obtain ⟨bs, e1, e2⟩ := rd_of_ints hl hz' hcell hwz
      exact ⟨bs, e1, hl, hb', e2⟩
  obtain ⟨a1, len1, cap1, rfl⟩ := okWide_slice Try.underlying22 (hval 1 22 v1 rfl rfl)
  have k1 := h1
  have lt1 : ∀ x ∈ p1, x.block < W.heap.size := by obtain ⟨m, hm⟩ := k1; exact DataW.trod_lt m _ _ _ hm
  obtain ⟨bs1, hl1, hc1, hm1, rd1⟩ : ∃ bs : List UInt8, bs.length = len1 ∧ len1 ≤ cap1 ∧ cap1 ≤ 140737488351232 ∧ Rd W a1 bs := by
    obtain ⟨fuel, hf⟩ := h1
    rcases open_ints Try.underlying22 Try.underlying5 (by kernel_rfl) hf with ⟨hcs, _⟩ | ⟨x, l, c, zs, hcs, _, hl, hm, hz, hx, hcell, hwz⟩
    · simp [Value.cells] at hcs
      obtain ⟨rfl, rfl, rfl⟩ := hcs
      exact ⟨[], rfl, by omega, by omega, .inl rfl⟩
    · simp [Value.cells] at hcs
      obtain ⟨rfl, rfl, rfl⟩ := hcs
      have hz' : zs.length = cap1 := by simpa using hz
      have hd : d1 = .slice (lits .u8 (zs.take len1)) (lits .u8 (zs.drop len1)) := congrArg Prod.fst hx
      have hb := sized_slice hsz (j := 1) (t := 22) (elems := lits .u8 (zs.take len1)) (spare := lits .u8 (zs.drop len1)) rfl (by rw [hd]; rfl) Try.underlying22
      have hb' : cap1 ≤ 140737488351232 := by
        rw [show Try.prog.bytesOf 5 = 1 from by kernel_rfl] at hb
        simp [lits, reachBytes] at hb; omega
      obtain ⟨bs, e1, e2⟩ := rd_of_ints hl hz' hcell hwz
      exact ⟨bs, e1, hl, hb', e2⟩
  clear hA0 hval0
  refine (walk_FrameMakes W a0 bs0 len0 cap0 hl0 hc0 hm0 rd0 a1 bs1 len1 cap1 hl1 hc1 hm1 rd1).mono fun e W' ⟨he, bel⟩ => ?_
  subst he
  exact ⟨_, rfl, _, _, _, [], _, [], hW', trodAll_mk1 (shut_bool Try.underlying4 _), (trodAll_cons_mk (Below.trod laidOut (by kernel_rfl) (of_decide_eq_true (by kernel_rfl)) k0 bel lt0) (trodAll_cons_mk (Below.trod laidOut (by kernel_rfl) (of_decide_eq_true (by kernel_rfl)) k1 bel lt1) trodAll_mk0)), rfl, bel.frame _, fun h => by cases h⟩
theorem over : Rows.frameMakesRow.holds Try.pinned (OpenSpec.ofChange Rows.frameMakesSpec) :=
  OpenClaim.holds_of_wide 3 Try.f3 rfl rfl rfl rfl rfl rfl rfl ⟨rfl, rfl, rfl, rfl, rfl⟩ rfl rfl rfl rfl rfl (by kernel_rfl) Try.func3 (by kernel_rfl)
    (of_decide_eq_true (by kernel_rfl)) (by unfold Func.isWrapper; first | (rw [if_pos (by decide +kernel)]; kernel_rfl) | (rw [if_neg (by decide +kernel)]; exact ⟨rfl, rfl⟩))
    (fun os started H enc _ => lifted os started H enc)
end frameMakes
/-- THE STATEMENT. -/
theorem frameMakes_holds : Rows.FrameMakesSaid := frameMakes.over
#print axioms frameMakes_holds
end Go.Proofs.Ytncpbmokbnjjoaa
