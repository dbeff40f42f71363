/-
  Behind an error nothing is read, and the first one stays: for all bytes, every error and all calls behind, the call of the law answers true, and all arguments read behind it as they read before. No condition.
-/
import Derived.Test.YtgadpdjhnlblaaaWSml
import Derived.Test.YtgadpdjhnlblaaaArgs
namespace Go.Proofs.Ytgadpdjhnlblaaa
open Go.RowKit Go.ChangeShapes Go.WideShapes Go.ChangeAt
/-- A scan behind an error: whatever is done, it stays so. -/
theorem dead_fail (e z : Int) (h : e ≠ 0) : (Wire.St.mk [] e).fail z = ⟨[], e⟩ := by simp [Wire.St.fail, h]
theorem dead_numS (e : Int) (h : e ≠ 0) : (Wire.St.mk [] e).numS = ⟨[], e⟩ := by
  show (Wire.St.mk [] e).fail 2 = _
  exact dead_fail e 2 h
theorem dead_uptoV (e m : Int) : (Wire.St.mk [] e).uptoV m = 0 := by
  unfold Wire.St.uptoV
  split
  · rfl
  · rfl
theorem dead_uptoS (e m : Int) (h : e ≠ 0) : (Wire.St.mk [] e).uptoS m = ⟨[], e⟩ := by
  unfold Wire.St.uptoS
  rw [dead_numS e h]
  split
  · exact dead_fail e 4 h
  · rfl
theorem dead_textV (e m : Int) (h : e ≠ 0) : (Wire.St.mk [] e).textV m = [] := by
  unfold Wire.St.textV
  rw [dead_uptoV, dead_uptoS e m h]; simp
theorem dead_textS (e m : Int) (h : e ≠ 0) : (Wire.St.mk [] e).textS m = ⟨[], e⟩ := by
  unfold Wire.St.textS
  rw [dead_uptoV, dead_uptoS e m h]; simp
theorem dead_int (e : Int) : Wire.zag (Wire.St.mk [] e).numV = 0 := by
  show Wire.zag 0 = 0
  rfl
theorem dead_end (e : Int) (h : e ≠ 0) : (Wire.St.mk [] e).endE = e := by simp [Wire.St.endE, h]
set_option maxRecDepth 100000 in
set_option maxHeartbeats 800000 in
theorem fails_out (w : World) (A C : Option Addr) (bs : List UInt8) (len cap len2 cap2 : Nat) (e : Int) (hl : bs.length = len) (hm : len ≤ 140737488351232) (rd : Rd w A bs) (h : 300 < len ∨ 60 < len2 ∨ e = 0) :
    Calls Try.prog 7 #[.slice A len cap, .int .i64 e, .slice C len2 cap2] w fun e w' => e = .returned (.bool true) ∧ Below w.heap.size w w' := by
  have HL := Lib.hid hl
  clear hl
  go_enter Try.func7, Try.ntmps7
  go_wp2_with fail
  refine (small_any _).mono ?_
  rintro e w1 ⟨rfl, hb1⟩
  go_wp2_with fail
  refine (on_at A bs len cap HL.out (by omega) _ (rd.below hb1)).mono ?_
  rintro e w2 ⟨g, rfl, hg, hb2, hs⟩
  replace hb2 := below_next hb1 (Nat.le_refl _) hb2
  by_cases h1 : (300 : Int) < (len : Int)
  · have hd1 : decide ((300 : Int) < (len : Int)) = true := by simpa using h1
    go_wp2_with fail
    go_ret
    exact ⟨rfl, hb2⟩
  · have hd1 : decide ((300 : Int) < (len : Int)) = false := by simpa using h1
    by_cases h2 : (60 : Int) < (len2 : Int)
    · have hd2 : decide ((60 : Int) < (len2 : Int)) = true := by simpa using h2
      go_wp2_with fail
      go_ret
      exact ⟨rfl, hb2⟩
    · have hd2 : decide ((60 : Int) < (len2 : Int)) = false := by simpa using h2
      obtain rfl : e = 0 := by omega
      go_wp2_with fail
      go_ret
      exact ⟨rfl, hb2⟩
set_option maxRecDepth 100000 in
set_option maxHeartbeats 1600000 in
theorem fails_in (w : World) (A C : Option Addr) (bs : List UInt8) (cs : List (Int × Int)) (len cap len2 cap2 : Nat) (e : Int) (hl : bs.length = len) (hm : len ≤ 300) (rd : Rd w A bs)
    (hl2 : cs.length = len2) (hm2 : len2 ≤ 60) (rd2 : RdP w C cs) (hw2 : ∀ z ∈ cs, (Lit.int .i64 z.1).wf = true ∧ (Lit.int .i64 z.2).wf = true) (he : e ≠ 0) :
    Calls Try.prog 7 #[.slice A len cap, .int .i64 e, .slice C len2 cap2] w fun e w' => e = .returned (.bool true) ∧ Below w.heap.size w w' := by
  have HL := Lib.hid hl
  have HL2 := Lib.hid hl2
  have HW := Lib.hid hw2
  have HE := Lib.hid he
  clear hl hl2 hw2
  have hd1 : decide ((300 : Int) < (len : Int)) = false := by simp; omega
  have hd2 : decide ((60 : Int) < (len2 : Int)) = false := by simp; omega
  have hd3 : (e == 0) = false := by simpa using he
  have hd4 : (e != e) = false := by simp
  have hd5 : (e == e) = true := by simp
  clear he
  go_enter Try.func7, Try.ntmps7
  go_wp2_with fail
  refine (small_any _).mono ?_
  rintro e1 w1 ⟨rfl, hb1⟩
  go_wp2_with fail
  refine (on_at A bs len cap HL.out (by omega) _ (rd.below hb1)).mono ?_
  rintro e1 w2 ⟨g, rfl, hg, hb2, hs⟩
  have hz1 := hb1.size
  have hgw : w.heap.size ≤ g := Nat.le_trans hz1 hg
  replace hb2 := below_next hb1 (Nat.le_refl _) hb2
  clear hg hz1 hb1
  go_wp2_with fail
  refine (fail_at w2 g _ hs e).mono ?_
  rintro e1 w3 ⟨rfl, hs3, ht3⟩
  have hb3 := ht3.below hb2 hb2.size hgw
  replace hs3 : Sc w3 g 54 ⟨[], e⟩ := by
    rw [Wire.St.fail, if_pos ⟨rfl, HE.out⟩] at hs3; exact hs3
  clear hs hb2 ht3
  go_wp2_with fail
  go_loopw [9] (fun i wr => ∃ k : Nat, k ≤ len2 ∧ i = .int .i64 (k : Int) ∧ Below w.heap.size w wr ∧ Sc wr g 54 ⟨[], e⟩) (fun i _ => len2 - (intOf i).toNat)
  case atStart => exact ⟨0, by omega, rfl, hb3, hs3⟩
  case round =>
    obtain ⟨k, hk, rfl, hbr, hsr⟩ := hrel
    by_cases hlt : k < len2
    · obtain ⟨g2, off, rfl, hg2, hc1, hc2⟩ := (rd2.below hbr).at_ (k := k) (by rw [HL2.out]; exact hlt)
      have hmem : cs[k]'(by rw [HL2.out]; exact hlt) ∈ cs := List.getElem_mem _
      have hwf := HW.out _ hmem
      generalize cs[k]'(by rw [HL2.out]; exact hlt) = c at *
      obtain ⟨d, z⟩ := c
      simp only at hc1 hc2 hwf
      have hzb := bounds_i64 hwf.2
      clear hmem hwf
      have HZ := Lib.hid hzb
      clear hzb
      by_cases q0 : d.tmod 5 = 0
      · go_wp2_with fail
        refine (num_is _ g _ ⟨[], e⟩ 0 hsr rfl (dead_numS e HE.out)).mono ?_
        rintro e1 wq ⟨rfl, hsq, htq⟩
        have hbq := htq.below hbr hbr.size hgw
        clear htq
        go_wp2_with fail
        refine (left_at _ g _ hsq 0 rfl).mono ?_
        rintro e1 wz ⟨rfl, rfl⟩
        go_wp2_with fail
        refine (err_at _ g _ hsq e rfl).mono ?_
        rintro e1 wz ⟨rfl, rfl⟩
        go_wp2_with fail
        refine (end_at _ g _ hsq e (dead_end e HE.out)).mono ?_
        rintro e1 wz ⟨rfl, rfl⟩
        go_wp2_with fail
        go_roundw
        case rel => exact ⟨k + 1, by omega, by go_num, hbq, hsq⟩
        case measure => simp [intOf]; omega
      · by_cases q1 : d.tmod 5 = 1
        · go_wp2_with fail
          refine (upto_is _ g _ ⟨[], e⟩ 0 hsr z HZ.out.1 HZ.out.2 (dead_uptoV e z) (dead_uptoS e z HE.out)).mono ?_
          rintro e1 wq ⟨rfl, hsq, htq⟩
          have hbq := htq.below hbr hbr.size hgw
          clear htq
          go_wp2_with fail
          refine (left_at _ g _ hsq 0 rfl).mono ?_
          rintro e1 wz ⟨rfl, rfl⟩
          go_wp2_with fail
          refine (err_at _ g _ hsq e rfl).mono ?_
          rintro e1 wz ⟨rfl, rfl⟩
          go_wp2_with fail
          refine (end_at _ g _ hsq e (dead_end e HE.out)).mono ?_
          rintro e1 wz ⟨rfl, rfl⟩
          go_wp2_with fail
          go_roundw
          case rel => exact ⟨k + 1, by omega, by go_num, hbq, hsq⟩
          case measure => simp [intOf]; omega
        · by_cases q2 : d.tmod 5 = 2
          · go_wp2_with fail
            refine (int_is _ g _ ⟨[], e⟩ 0 hsr (dead_int e) (dead_numS e HE.out)).mono ?_
            rintro e1 wq ⟨rfl, hsq, htq⟩
            have hbq := htq.below hbr hbr.size hgw
            clear htq
            go_wp2_with fail
            refine (left_at _ g _ hsq 0 rfl).mono ?_
            rintro e1 wz ⟨rfl, rfl⟩
            go_wp2_with fail
            refine (err_at _ g _ hsq e rfl).mono ?_
            rintro e1 wz ⟨rfl, rfl⟩
            go_wp2_with fail
            refine (end_at _ g _ hsq e (dead_end e HE.out)).mono ?_
            rintro e1 wz ⟨rfl, rfl⟩
            go_wp2_with fail
            go_roundw
            case rel => exact ⟨k + 1, by omega, by go_num, hbq, hsq⟩
            case measure => simp [intOf]; omega
          · by_cases q3 : d.tmod 5 = 3
            · go_wp2_with fail
              refine (text_is _ g _ ⟨[], e⟩ [] hsr z HZ.out.1 HZ.out.2 (dead_textV e z HE.out) (dead_textS e z HE.out)).mono ?_
              rintro e1 wq ⟨rfl, hsq, htq⟩
              have hbq := htq.below hbr hbr.size hgw
              clear htq
              go_wp2_with fail
              refine (left_at _ g _ hsq 0 rfl).mono ?_
              rintro e1 wz ⟨rfl, rfl⟩
              go_wp2_with fail
              refine (err_at _ g _ hsq e rfl).mono ?_
              rintro e1 wz ⟨rfl, rfl⟩
              go_wp2_with fail
              refine (end_at _ g _ hsq e (dead_end e HE.out)).mono ?_
              rintro e1 wz ⟨rfl, rfl⟩
              go_wp2_with fail
              go_roundw
              case rel => exact ⟨k + 1, by omega, by go_num, hbq, hsq⟩
              case measure => simp [intOf]; omega
            · by_cases q4 : d.tmod 5 = 4
              · go_wp2_with fail
                refine (fail_at _ g _ hsr z).mono ?_
                rintro e1 wq ⟨rfl, hsq, htq⟩
                have hbq := htq.below hbr hbr.size hgw
                clear htq
                rw [dead_fail e z HE.out] at hsq
                go_wp2_with fail
                refine (left_at _ g _ hsq 0 rfl).mono ?_
                rintro e1 wz ⟨rfl, rfl⟩
                go_wp2_with fail
                refine (err_at _ g _ hsq e rfl).mono ?_
                rintro e1 wz ⟨rfl, rfl⟩
                go_wp2_with fail
                refine (end_at _ g _ hsq e (dead_end e HE.out)).mono ?_
                rintro e1 wz ⟨rfl, rfl⟩
                go_wp2_with fail
                go_roundw
                case rel => exact ⟨k + 1, by omega, by go_num, hbq, hsq⟩
                case measure => simp [intOf]; omega
              · have p0 : (d.tmod 5 == 0) = false := by simpa using q0
                have p1 : (d.tmod 5 == 1) = false := by simpa using q1
                have p2 : (d.tmod 5 == 2) = false := by simpa using q2
                have p3 : (d.tmod 5 == 3) = false := by simpa using q3
                have p4 : (d.tmod 5 == 4) = false := by simpa using q4
                go_wp2_with fail
                refine (left_at _ g _ hsr 0 rfl).mono ?_
                rintro e1 wz ⟨rfl, rfl⟩
                go_wp2_with fail
                refine (err_at _ g _ hsr e rfl).mono ?_
                rintro e1 wz ⟨rfl, rfl⟩
                go_wp2_with fail
                refine (end_at _ g _ hsr e (dead_end e HE.out)).mono ?_
                rintro e1 wz ⟨rfl, rfl⟩
                go_wp2_with fail
                go_roundw
                case rel => exact ⟨k + 1, by omega, by go_num, hbr, hsr⟩
                case measure => simp [intOf]; omega
    · obtain rfl : k = len2 := by omega
      go_wp2_with fail
      refine (err_at _ g _ hsr e rfl).mono ?_
      rintro e1 wz ⟨rfl, rfl⟩
      go_wp2_with fail
      go_ret
      exact ⟨rfl, hbr⟩
theorem walk_WireFails (w : World) (a0 : Option Addr) (bs : List UInt8) (len cap : Nat) (hl : bs.length = len) (hc : len ≤ cap) (hm : cap ≤ 140737488351232) (rd : Rd w a0 bs) (a1 : Int) (_w1 : (Lit.int .i64 a1).wf = true)
    (a2 : Option Addr) (cs : List (Int × Int)) (len2 cap2 : Nat) (hl2 : cs.length = len2) (_hc2 : len2 ≤ cap2) (_hm2 : cap2 ≤ maxLen) (rd2 : RdP w a2 cs) (hw2 : ∀ z ∈ cs, (Lit.int .i64 z.1).wf = true ∧ (Lit.int .i64 z.2).wf = true) :
    Calls Try.prog 7 #[.slice a0 len cap, .int .i64 a1, .slice a2 len2 cap2] w fun e w' => e = .returned (.bool true) ∧ Below w.heap.size w w' := by
  by_cases h : 300 < len ∨ 60 < len2 ∨ a1 = 0
  · exact fails_out w a0 a2 bs len cap len2 cap2 a1 hl (by omega) rd h
  · exact fails_in w a0 a2 bs cs len cap len2 cap2 a1 hl (by omega) rd hl2 (by omega) rd2 hw2 (by omega)

/-! ### The row's step. -/
namespace wireFails
theorem own : ownKnob Try.prog.godebug = none := by kernel_rfl
theorem laidOut : laidOutB Try.prog = true := by kernel_rfl
set_option linter.unusedVariables false in
set_option maxRecDepth 100000 in
theorem lifted (os : Os) (started : os.Started) (H : Type) (enc : TypeId × Value → H) :
    ReturnsInHanded {} Try.checked os 7 .any (Rows.wireFailsSpec.pre6 enc Try.prog Try.f7 Rows.wireFailsRow.domain false) (Rows.wireFailsSpec.post enc Try.prog Try.f7 false true false false) := by
  refine returnsInHanded_of_change_sized (C := Try.checked) own started (by kernel_rfl) Try.func7
    (ChangeSpec.witness6 (enc := enc) (C := Try.checked) false ⟨#[], #[.slice none 0 0, .int .i64 0, .slice none 0 0], []⟩ 8 (by kernel_rfl) (by kernel_rfl) (by kernel_rfl) (by kernel_rfl)) ?_
  intro W base args ds gs before hval0 hW hcnd hsz0 _
  have hval : ∀ (j : Nat) t v, Try.f7.params[j]? = some t → args[j]? = some v → Value.okWide Try.prog W .any base t v := hval0
  have hsz : (DataW.weightsEach Try.prog (Try.f7.params.toList ++ Rows.wireFailsSpec.plain.varTypes Try.prog) (ds ++ gs)).all (· ≤ reachBytes) = true := hsz0
  have hW' := hW
  obtain ⟨p, q, hA0, hV, rfl, hfz, hnd⟩ := hW
  have hA : DataW.TrodAll enc Try.prog W 0 (fun _ => true) true Try.f7.params.toList args.toList ds p := hA0
  rw [Try.params7] at hA hval hsz
  obtain ⟨v0, vs0, d0, ds0, p0, q0, hargs, rfl, rfl, h0, r0⟩ := trodAll_cons hA
  obtain ⟨v1, vs1, d1, ds1, p1, q1, rfl, rfl, rfl, h1, r1⟩ := trodAll_cons r0
  obtain ⟨v2, vs2, d2, ds2, p2, q2, rfl, rfl, rfl, h2, r2⟩ := trodAll_cons r1
  obtain ⟨rfl, rfl, rfl⟩ := trodAll_nil r2
  obtain rfl : args = #[v0, v1, v2] := by cases args; simp_all
  obtain ⟨rfl, rfl⟩ := trodVars_none hV
  obtain ⟨a0, len0, cap0, rfl⟩ := okWide_slice Try.underlying22 (hval 0 22 v0 rfl rfl)
  have k0 := h0
  have lt0 : ∀ x ∈ p0, x.block < W.heap.size := by obtain ⟨m, hm⟩ := k0; exact DataW.trod_lt m _ _ _ hm
  obtain ⟨bs0, hl0, hc0, hm0, rd0⟩ : ∃ bs : List UInt8, bs.length = len0 ∧ len0 ≤ cap0 ∧ cap0 ≤ 140737488351232 ∧ Rd W a0 bs := by
    obtain ⟨fuel, hf⟩ := h0
    rcases open_ints Try.underlying22 Try.underlying5 (by kernel_rfl) hf with ⟨hcs, _⟩ | ⟨x, l, c, zs, hcs, _, hl, hm, hz, hx, hcell, hwz⟩
    · simp [Value.cells] at hcs
      obtain ⟨rfl, rfl, rfl⟩ := hcs
      exact ⟨[], rfl, by omega, by omega, .inl rfl⟩
    · simp [Value.cells] at hcs
      obtain ⟨rfl, rfl, rfl⟩ := hcs
      have hz' : zs.length = cap0 := by simpa using hz
      have hd : d0 = .slice (lits .u8 (zs.take len0)) (lits .u8 (zs.drop len0)) := congrArg Prod.fst hx
      have hb := sized_slice hsz (j := 0) (t := 22) (elems := lits .u8 (zs.take len0)) (spare := lits .u8 (zs.drop len0)) rfl (by rw [hd]; rfl) Try.underlying22
      have hb' : cap0 ≤ 140737488351232 := by
        rw [show Try.prog.bytesOf 5 = 1 from by kernel_rfl] at hb
        simp [lits, reachBytes] at hb; omega
      obtain ⟨bs, e1, e2⟩ := rd_of_ints hl hz' hcell hwz
      exact ⟨bs, e1, hl, hb', e2⟩
  obtain ⟨a1, rfl, rfl, rfl, w1⟩ := open_int Try.underlying3 (hval 1 3 v1 rfl rfl) h1
  obtain ⟨a2, len2, cap2, rfl⟩ := okWide_slice Try.underlying29 (hval 2 29 v2 rfl rfl)
  have k2 := h2
  have lt2 : ∀ x ∈ p2, x.block < W.heap.size := by obtain ⟨m, hm⟩ := k2; exact DataW.trod_lt m _ _ _ hm
  obtain ⟨zs2, hl2, hc2, hm2, rd2, hw2⟩ := open_pairs_of Try.underlying29 Try.underlying37 (by kernel_rfl) ⟨rfl, rfl, by kernel_rfl⟩ ⟨rfl, rfl, by kernel_rfl⟩ Try.underlying3 Try.underlying3 k2
  clear hA0 hval0
  refine (walk_WireFails W a0 bs0 len0 cap0 hl0 hc0 hm0 rd0 a1 w1 a2 zs2 len2 cap2 hl2 hc2 hm2 rd2 hw2).mono fun e W' ⟨he, bel⟩ => ?_
  subst he
  exact ⟨_, rfl, _, _, _, [], _, [], hW', trodAll_mk1 (shut_bool Try.underlying4 _), (trodAll_cons_mk (Below.trod laidOut (by kernel_rfl) (of_decide_eq_true (by kernel_rfl)) k0 bel lt0) (trodAll_cons_mk (shut_int Try.underlying3 w1) (trodAll_cons_mk (Below.trod laidOut (by kernel_rfl) (of_decide_eq_true (by kernel_rfl)) k2 bel lt2) trodAll_mk0))), rfl, bel.frame _, fun h => by cases h⟩
theorem over : Rows.wireFailsRow.holds Try.pinned (OpenSpec.ofChange Rows.wireFailsSpec) :=
  OpenClaim.holds_of_wide 7 Try.f7 rfl rfl rfl rfl rfl rfl rfl ⟨rfl, rfl, rfl, rfl, rfl⟩ rfl rfl rfl rfl rfl (by kernel_rfl) Try.func7 (by kernel_rfl)
    (of_decide_eq_true (by kernel_rfl)) (by unfold Func.isWrapper; first | (rw [if_pos (by decide +kernel)]; kernel_rfl) | (rw [if_neg (by decide +kernel)]; exact ⟨rfl, rfl⟩))
    (fun os started H enc _ => lifted os started H enc)
end wireFails
/-- THE STATEMENT. -/
theorem wireFails_holds : Rows.WireFailsSaid := wireFails.over
#print axioms wireFails_holds
end Go.Proofs.Ytgadpdjhnlblaaa
