/-
  What is read was laid just so: for all bytes, read as a number, as an int and as a text, the call of the law answers true, and all arguments read behind it as they read before. No condition.
-/
import Derived.Test.YtgadpdjhnlblaaaWSml
import Derived.Test.YtgadpdjhnlblaaaArgs
namespace Go.Proofs.Ytgadpdjhnlblaaa
open Go.RowKit Go.ChangeShapes Go.WideShapes Go.ChangeAt
/-- Three scans. -/
structure Three (w0 w : World) (gs gt gu : Nat) (s t u : Wire.St) : Prop where
  bel : Below w0.heap.size w0 w
  le : w0.heap.size ≤ gs ∧ w0.heap.size ≤ gt ∧ w0.heap.size ≤ gu
  ne : gs ≠ gt ∧ gs ≠ gu ∧ gt ≠ gu
  s : Sc w gs 54 s
  t : Sc w gt 54 t
  u : Sc w gu 54 u
section
variable {w0 w w' : World} {gs gt gu : Nat} {s t u x : Wire.St}
theorem Three.onS (h : Three w0 w gs gt gu s t u) (hx : Sc w' gs 54 x) (k : Touch gs w w') : Three w0 w' gs gt gu x t u :=
  ⟨k.below h.bel h.bel.size h.le.1, h.le, h.ne, hx, k.sc h.s h.t h.ne.1.symm, k.sc h.s h.u h.ne.2.1.symm⟩
theorem Three.onT (h : Three w0 w gs gt gu s t u) (hx : Sc w' gt 54 x) (k : Touch gt w w') : Three w0 w' gs gt gu s x u :=
  ⟨k.below h.bel h.bel.size h.le.2.1, h.le, h.ne, k.sc h.t h.s h.ne.1, hx, k.sc h.t h.u h.ne.2.2.symm⟩
theorem Three.onU (h : Three w0 w gs gt gu s t u) (hx : Sc w' gu 54 x) (k : Touch gu w w') : Three w0 w' gs gt gu s t x :=
  ⟨k.below h.bel h.bel.size h.le.2.2, h.le, h.ne, k.sc h.u h.s h.ne.2.1, k.sc h.u h.t h.ne.2.2, hx⟩
theorem Three.drewN (h : Three w0 w gs gt gu s t u) (n : Nat) : Three w0 (w.drewN n) gs gt gu s t u := ⟨below_drewN h.bel n, h.le, h.ne, h.s, h.t, h.u⟩
theorem Three.below (h : Three w0 w gs gt gu s t u) (k : Below w.heap.size w w') : Three w0 w' gs gt gu s t u :=
  ⟨below_next h.bel (Nat.le_refl _) k, h.le, h.ne, h.s.below k, h.t.below k, h.u.below k⟩
end
set_option maxRecDepth 100000 in
set_option maxHeartbeats 1600000 in
theorem once_any (w : World) (A : Option Addr) (b : List UInt8) (len cap : Nat) (hl : b.length = len) (hcap : len ≤ cap) (hm : len ≤ 140737488351232) (rd : Rd w A b) :
    Calls Try.prog 6 #[.slice A len cap] w fun e w' => e = .returned (.bool true) ∧ Below w.heap.size w w' := by
  have HL := Lib.hid hl
  clear hl
  go_enter Try.func6, Try.ntmps6
  go_wp2_with fail
  refine (small_any _).mono ?_
  rintro e w1 ⟨rfl, hb1⟩
  have hz1 := hb1.size
  go_wp2_with fail
  refine (on_at A b len cap HL.out (by omega) _ (rd.below hb1)).mono ?_
  rintro e w2 ⟨gs, rfl, hgs, hb2, hs2⟩
  replace hb2 := below_next hb1 (Nat.le_refl _) hb2
  have hls := hs2.lt
  have hz2 := hb2.size
  go_wp2_with fail
  refine (on_at A b len cap HL.out (by omega) _ (rd.below hb2)).mono ?_
  rintro e w3 ⟨gt, rfl, hgt, hb3, ht3⟩
  have hs3 := hs2.below hb3
  replace hb3 := below_next hb2 (Nat.le_refl _) hb3
  have hlt := ht3.lt
  have hz3 := hb3.size
  go_wp2_with fail
  refine (on_at A b len cap HL.out (by omega) _ (rd.below hb3)).mono ?_
  rintro e w4 ⟨gu, rfl, hgu, hb4, hu4⟩
  have hs4 := hs3.below hb4
  have ht4 := ht3.below hb4
  replace hb4 := below_next hb3 (Nat.le_refl _) hb4
  have hF : Three w w4 gs gt gu ⟨b, 0⟩ ⟨b, 0⟩ ⟨b, 0⟩ := ⟨hb4, by omega, by omega, hs4, ht4, hu4⟩
  clear hb1 hb2 hb3 hb4 hs2 hs3 hs4 ht3 ht4 hu4 hgs hgt hgu hls hlt hz1 hz2 hz3
  by_cases h1 : (300 : Int) < (len : Int)
  · have hd1 : decide ((300 : Int) < (len : Int)) = true := by simpa using h1
    go_wp2_with fail
    go_ret
    exact ⟨rfl, hF.bel⟩
  · have hd1 : decide ((300 : Int) < (len : Int)) = false := by simpa using h1
    have hlen : len ≤ 300 := by omega
    clear h1 hm
    go_wp2_with fail
    refine (num_is _ gs _ _ _ hF.s rfl rfl).mono ?_
    rintro e w5 ⟨rfl, hs, hT⟩
    replace hF := hF.onS hs hT
    clear hs hT
    go_wp2_with fail
    refine (int_is _ gt _ _ _ hF.t rfl rfl).mono ?_
    rintro e w6 ⟨rfl, hs, hT⟩
    replace hF := hF.onT hs hT
    clear hs hT
    go_wp2_with fail
    refine (text_is _ gu _ _ _ hF.u 300 (by decide) (by decide) rfl rfl).mono ?_
    rintro e w7 ⟨rfl, hs, hT⟩
    replace hF := hF.onU hs hT
    clear hs hT
    have hVl : Hid ((Wire.St.mk b 0).numV < 2 ^ 64) := Wire.num_lt b
    have hbd := Wire.zag_bd _ hVl.out
    have hzz : Hid (Wire.zig (Wire.zag (Wire.St.mk b 0).numV) = (Wire.St.mk b 0).numV) := Wire.zig_zag _
    have hor := Wire.St.num_or b
    have htr := Wire.St.text_or b 300
    generalize (Wire.St.mk b 0).numV = v at *
    generalize (Wire.St.mk b 0).numS = sN at *
    generalize (Wire.St.mk b 0).textS 300 = sT at *
    generalize (Wire.St.mk b 0).textV 300 = x at *
    have HO := Lib.hid hor
    have HTX := Lib.hid htr
    have HBD := Lib.hid hbd
    clear hor htr hbd
    have hpl := Wire.put_len_le v hVl.out
    obtain ⟨lp, hlp⟩ : ∃ lp, (Wire.put v).length = lp := ⟨_, rfl⟩
    have HP := Lib.hid hlp
    rw [hlp] at hpl
    clear hlp
    have hxl : Hid ((Wire.text x).length ≤ 310) := by
      show _ ≤ _
      rcases HTX.out with ⟨_, _, rfl⟩ | ⟨j, hj, _, h, _⟩
      · have : Wire.text [] = [0] := by
          unfold Wire.text
          rw [List.length_nil, Wire.put_lo 0 (by decide)]; rfl
        rw [this]; simp
      · rw [h, List.length_take, HL.out]; omega
    obtain ⟨lx, hlx⟩ : ∃ lx, (Wire.text x).length = lx := ⟨_, rfl⟩
    have HX := Lib.hid hlx
    rw [hlx] at hxl
    clear hlx
    have hxl' := hxl.out
    go_wp2_with fail
    refine (put_at none [] 0 0 v lp rfl (by rw [HP.out]; omega) hVl.out (by omega) _ (.inl rfl)).mono ?_
    rintro e w8 ⟨gp, rfl, hgp, hb8, hBp⟩
    replace hF := hF.below hb8
    clear hb8 hgp
    go_wp2_with fail
    refine (putInt_at none [] 0 0 lp _ rfl (by rw [hzz.out, HP.out]; omega) HBD.out.1 HBD.out.2 (by omega) _ (.inl rfl)).mono ?_
    rintro e w9 ⟨gq, rfl, hgq, hb9, hBq⟩
    rw [hzz.out] at hBq
    replace hF := hF.below hb9
    replace hBp := hBp.below hb9 hBp.lt
    clear hb9 hgq
    go_wp2_with fail
    refine (putText_at none [] x 0 0 x.length lx rfl rfl (by rw [HX.out]; omega) (by omega) _ (.inl rfl)).mono ?_
    rintro e w10 ⟨gr, rfl, hgr, hb10, hBr⟩
    replace hF := hF.below hb10
    replace hBp := hBp.below hb10 hBp.lt
    replace hBq := hBq.below hb10 hBq.lt
    clear hb10 hgr
    rw [List.nil_append] at hBp hBq hBr
    have hrb := rd.below hF.bel
    obtain ⟨rN, eN⟩ := sN
    obtain ⟨rT, eT⟩ := sT
    rcases HO.out with ⟨n1, n2, n3⟩ | ⟨j, hj, hNS, hput, n3⟩
    · -- no number: no text either
      simp only at n1 n2
      obtain ⟨t1, t2, rfl⟩ : eT ≠ 0 ∧ rT = [] ∧ x = [] := by
        rcases HTX.out with h | ⟨_, _, _, _, h⟩
        · exact h
        · exact absurd h n3
      subst n2
      subst t2
      have d1 : (eN == 0) = false := by simpa using n1
      have d2 : (eT != 0) = true := by simpa using t1
      clear n1 n3 t1 HO HTX
      go_wp2_with fail
      go_quiet (first
        | (go_at_call_of 27 (Value.pointer (some ⟨gs, 0, none⟩)); exact quiet_same (err_at _ gs _ (hF.s.drewN _) eN rfl)))
      have hF2 := hF.drewN nq
      clear hF hBp hBq hBr hrb
      generalize w10.drewN nq = wx at *
      go_wp2_with fail
      go_quiet (first
        | (go_at_call_of 27 (Value.pointer (some ⟨gs, 0, none⟩)); exact quiet_same (err_at _ gs _ (hF2.s.drewN _) eN rfl))
        | (go_at_call_of 27 (Value.pointer (some ⟨gt, 0, none⟩)); exact quiet_same (err_at _ gt _ (hF2.t.drewN _) eN rfl))
        | (go_at_call_of 27 (Value.pointer (some ⟨gu, 0, none⟩)); exact quiet_same (err_at _ gu _ (hF2.u.drewN _) eT rfl)))
      go_wp2_with fail
      go_ret
      exact ⟨rfl, below_drewN hF2.bel _⟩
    · -- a number: it was laid just so
      cases hNS
      have hjl : j = lp := by
        have := HP.out
        rw [hput, List.length_take, HL.out] at this
        rw [HL.out] at hj; omega
      subst hjl
      rw [HL.out] at hj
      rw [hput] at hBp hBq
      have HJ := Lib.hid hj
      have HPT := Lib.hid hput
      clear hput
      obtain ⟨d, hd⟩ : ∃ d, len - j = d := ⟨_, rfl⟩
      have HDL : Hid ((b.drop j).length = d) := by
        show _ = _
        rw [List.length_drop, HL.out, hd]
      have q1 : decide (len < j) = false := by simp; omega
      have q2 : IntKind.i64.wrap ((len : Int) - (d : Int)) = (j : Int) := by
        rw [IntKind.wrap_i64]; omega
      clear hd hj n3
      have hTJ : Hid ((b.take j).length = j) := by
        show _ = _
        rw [List.length_take, HL.out]; have := HJ.out; omega
      have hhd := run_head A len cap j HJ.out hcap
      have hsp := run_strN (P := Try.prog) w10 _ (b.take j) j j hBp.rd hTJ.out 22 5 9 Try.underlying22 Try.underlying5 Try.underlying9
      have hsq := run_strN (P := Try.prog) w10 _ (b.take j) j j hBq.rd hTJ.out 22 5 9 Try.underlying22 Try.underlying5 Try.underlying9
      have hsb := run_strN (P := Try.prog) w10 A (b.take j) j cap (hrb.take j) hTJ.out 22 5 9 Try.underlying22 Try.underlying5 Try.underlying9
      clear HO
      go_wp2_with fail
      go_quiet (first
        | (go_at_call_of 27 (Value.pointer (some ⟨gs, 0, none⟩)); exact quiet_same (err_at _ gs _ (hF.s.drewN _) 0 rfl))
        | (go_at_call_of 26 (Value.pointer (some ⟨gs, 0, none⟩)); exact quiet_same (left_at _ gs _ (hF.s.drewN _) d HDL.out))
        | (go_at_call_of 27 (Value.pointer (some ⟨gt, 0, none⟩)); exact quiet_same (err_at _ gt _ (hF.t.drewN _) 0 rfl)))
      clear hhd hsp hsq hsb q1 q2
      have hF2 := hF.drewN nq
      have hBr2 : Blk (w10.drewN nq) gr 5 ((Wire.text x).map Bv).toArray := hBr
      have hrb2 : Rd (w10.drewN nq) A b := hrb
      clear hF hBp hBq hBr hrb
      generalize w10.drewN nq = wx at *
      rcases HTX.out with ⟨t1, rfl, rfl⟩ | ⟨i, hi, hTS, htx, _⟩
      · have d2 : (eT != 0) = true := by simpa using t1
        clear t1 HTX
        go_wp2_with fail
        go_quiet (first
          | (go_at_call_of 27 (Value.pointer (some ⟨gs, 0, none⟩)); exact quiet_same (err_at _ gs _ (hF2.s.drewN _) 0 rfl))
          | (go_at_call_of 27 (Value.pointer (some ⟨gt, 0, none⟩)); exact quiet_same (err_at _ gt _ (hF2.t.drewN _) 0 rfl))
          | (go_at_call_of 27 (Value.pointer (some ⟨gu, 0, none⟩)); exact quiet_same (err_at _ gu _ (hF2.u.drewN _) eT rfl)))
        go_wp2_with fail
        go_ret
        exact ⟨rfl, below_drewN hF2.bel _⟩
      · cases hTS
        have hil : i = lx := by
          have := HX.out
          rw [htx, List.length_take, HL.out] at this
          rw [HL.out] at hi; omega
        subst hil
        rw [HL.out] at hi
        rw [htx] at hBr2
        have HI := Lib.hid hi
        clear htx
        obtain ⟨d', hd⟩ : ∃ d', len - i = d' := ⟨_, rfl⟩
        have HDL2 : Hid ((b.drop i).length = d') := by
          show _ = _
          rw [List.length_drop, HL.out, hd]
        have q1 : decide (i ≤ len) = true := by simpa using hi
        have q2 : IntKind.i64.wrap ((len : Int) - (d' : Int)) = (i : Int) := by
          rw [IntKind.wrap_i64]; omega
        clear hd hi
        have hTJ2 : Hid ((b.take i).length = i) := by
          show _ = _
          rw [List.length_take, HL.out]; have := HI.out; omega
        have hhd := run_head A len cap i HI.out hcap
        have hsr := run_strN (P := Try.prog) wx _ (b.take i) i i hBr2.rd hTJ2.out 22 5 9 Try.underlying22 Try.underlying5 Try.underlying9
        have hsb := run_strN (P := Try.prog) wx A (b.take i) i cap (hrb2.take i) hTJ2.out 22 5 9 Try.underlying22 Try.underlying5 Try.underlying9
        clear HTX
        go_wp2_with fail
        go_quiet (first
          | (go_at_call_of 27 (Value.pointer (some ⟨gs, 0, none⟩)); exact quiet_same (err_at _ gs _ (hF2.s.drewN _) 0 rfl))
          | (go_at_call_of 27 (Value.pointer (some ⟨gt, 0, none⟩)); exact quiet_same (err_at _ gt _ (hF2.t.drewN _) 0 rfl))
          | (go_at_call_of 27 (Value.pointer (some ⟨gu, 0, none⟩)); exact quiet_same (err_at _ gu _ (hF2.u.drewN _) 0 rfl))
          | (go_at_call_of 26 (Value.pointer (some ⟨gu, 0, none⟩)); exact quiet_same (left_at _ gu _ (hF2.u.drewN _) d' HDL2.out)))
        go_wp2_with fail
        go_ret
        exact ⟨rfl, below_drewN hF2.bel _⟩
theorem walk_WireOnce (w : World) (a0 : Option Addr) (bs : List UInt8) (len cap : Nat) (hl : bs.length = len) (hc : len ≤ cap) (hm : cap ≤ 140737488351232) (rd : Rd w a0 bs) :
    Calls Try.prog 6 #[.slice a0 len cap] w fun e w' => e = .returned (.bool true) ∧ Below w.heap.size w w' :=
  once_any w a0 bs len cap hl hc (by omega) rd

/-! ### The row's step. -/
namespace wireOnce
theorem own : ownKnob Try.prog.godebug = none := by kernel_rfl
theorem laidOut : laidOutB Try.prog = true := by kernel_rfl
set_option linter.unusedVariables false in
set_option maxRecDepth 100000 in
theorem lifted (os : Os) (started : os.Started) (H : Type) (enc : TypeId × Value → H) :
    ReturnsInHanded {} Try.checked os 6 .any (Rows.wireOnceSpec.pre6 enc Try.prog Try.f6 Rows.wireOnceRow.domain false) (Rows.wireOnceSpec.post enc Try.prog Try.f6 false true false false) := by
  refine returnsInHanded_of_change_sized (C := Try.checked) own started (by kernel_rfl) Try.func6
    (ChangeSpec.witness6 (enc := enc) (C := Try.checked) false ⟨#[], #[.slice none 0 0], []⟩ 8 (by kernel_rfl) (by kernel_rfl) (by kernel_rfl) (by kernel_rfl)) ?_
  intro W base args ds gs before hval0 hW hcnd hsz0 _
  have hval : ∀ (j : Nat) t v, Try.f6.params[j]? = some t → args[j]? = some v → Value.okWide Try.prog W .any base t v := hval0
  have hsz : (DataW.weightsEach Try.prog (Try.f6.params.toList ++ Rows.wireOnceSpec.plain.varTypes Try.prog) (ds ++ gs)).all (· ≤ reachBytes) = true := hsz0
  have hW' := hW
  obtain ⟨p, q, hA0, hV, rfl, hfz, hnd⟩ := hW
  have hA : DataW.TrodAll enc Try.prog W 0 (fun _ => true) true Try.f6.params.toList args.toList ds p := hA0
  rw [Try.params6] at hA hval hsz
  obtain ⟨v0, vs0, d0, ds0, p0, q0, hargs, rfl, rfl, h0, r0⟩ := trodAll_cons hA
  obtain ⟨rfl, rfl, rfl⟩ := trodAll_nil r0
  obtain rfl : args = #[v0] := by cases args; simp_all
  obtain ⟨rfl, rfl⟩ := trodVars_none hV
  obtain ⟨a0, len0, cap0, rfl⟩ := okWide_slice Try.underlying22 (hval 0 22 v0 rfl rfl)
  have k0 := h0
  have lt0 : ∀ x ∈ p0, x.block < W.heap.size := by obtain ⟨m, hm⟩ := k0; exact DataW.trod_lt m _ _ _ hm
  obtain ⟨bs0, hl0, hc0, hm0, rd0⟩ : ∃ bs : List UInt8, bs.length = len0 ∧ len0 ≤ cap0 ∧ cap0 ≤ 140737488351232 ∧ Rd W a0 bs := by
    obtain ⟨fuel, hf⟩ := h0
    rcases open_ints Try.underlying22 Try.underlying5 (by kernel_rfl) hf with ⟨hcs, _⟩ | ⟨x, l, c, zs, hcs, _, hl, hm, hz, hx, hcell, hwz⟩
    · simp [Value.cells] at hcs
      obtain ⟨rfl, rfl, rfl⟩ := hcs
      exact ⟨[], rfl, by omega, by omega, .inl rfl⟩
    · simp [Value.cells] at hcs
      obtain ⟨rfl, rfl, rfl⟩ := hcs
      have hz' : zs.length = cap0 := by simpa using hz
      have hd : d0 = .slice (lits .u8 (zs.take len0)) (lits .u8 (zs.drop len0)) := congrArg Prod.fst hx
      have hb := sized_slice hsz (j := 0) (t := 22) (elems := lits .u8 (zs.take len0)) (spare := lits .u8 (zs.drop len0)) rfl (by rw [hd]; rfl) Try.underlying22
      have hb' : cap0 ≤ 140737488351232 := by
        rw [show Try.prog.bytesOf 5 = 1 from by kernel_rfl] at hb
        simp [lits, reachBytes] at hb; omega
      obtain ⟨bs, e1, e2⟩ := rd_of_ints hl hz' hcell hwz
      exact ⟨bs, e1, hl, hb', e2⟩
  clear hA0 hval0
  refine (walk_WireOnce W a0 bs0 len0 cap0 hl0 hc0 hm0 rd0).mono fun e W' ⟨he, bel⟩ => ?_
  subst he
  exact ⟨_, rfl, _, _, _, [], _, [], hW', trodAll_mk1 (shut_bool Try.underlying4 _), (trodAll_cons_mk (Below.trod laidOut (by kernel_rfl) (of_decide_eq_true (by kernel_rfl)) k0 bel lt0) trodAll_mk0), rfl, bel.frame _, fun h => by cases h⟩
theorem over : Rows.wireOnceRow.holds Try.pinned (OpenSpec.ofChange Rows.wireOnceSpec) :=
  OpenClaim.holds_of_wide 6 Try.f6 rfl rfl rfl rfl rfl rfl rfl ⟨rfl, rfl, rfl, rfl, rfl⟩ rfl rfl rfl rfl rfl (by kernel_rfl) Try.func6 (by kernel_rfl)
    (of_decide_eq_true (by kernel_rfl)) (by unfold Func.isWrapper; first | (rw [if_pos (by decide +kernel)]; kernel_rfl) | (rw [if_neg (by decide +kernel)]; exact ⟨rfl, rfl⟩))
    (fun os started H enc _ => lifted os started H enc)
end wireOnce
/-- THE STATEMENT. -/
theorem wireOnce_holds : Rows.WireOnceSaid := wireOnce.over
#print axioms wireOnce_holds
end Go.Proofs.Ytgadpdjhnlblaaa
