/-
  An event that meets an entry meets all that stand above it: for every two entries and every row of attributes the call of the law answers true, and all arguments read behind it as they read before. No condition.
-/
import Derived.Test.YtckabmlilbkmbaaP4
namespace Go.Proofs.Ytckabmlilbkmbaa
open Go.RowKit Go.ChangeShapes Go.WideShapes Go.ChangeAt Go.Sort Spans Tb
set_option maxRecDepth 100000 in
set_option maxHeartbeats 8000000 in
theorem walk_PosetMeets (w : World) (x : Ex) (fx : Flt w x) (bx : EBx [x]) (y : Ex) (fy : Flt w y) (b_y : EBx [y]) (B : Option Addr) (es : List Ev.At) (m d : Nat) (hes : es.length = m) (hec : m ≤ d) (hem : d ≤ maxLen) (hre : RdA w B es) (hle : ∀ a ∈ es, a.n.length ≤ maxLen ∧ a.t.length ≤ maxLen ∧ (Lit.int .i64 a.i).wf = true) :
    Calls Try.prog 7 #[exV x, exV y, .slice B m d] w fun e w' => e = .returned (.bool true) ∧ Below w.heap.size w w' := by
  obtain ⟨xi, xr, xA, xn, xc, xf⟩ := x
  obtain ⟨hx1, hx2, hx3⟩ := fx
  dsimp only at hx1 hx2 hx3
  have HXL := Lib.hid hx1
  have HXC := Lib.hid hx2
  have HXB := Lib.hid bx
  obtain ⟨yi, yr, yA, yn, yc, yf⟩ := y
  obtain ⟨hy1, hy2, hy3⟩ := fy
  dsimp only at hy1 hy2 hy3
  have HYL := Lib.hid hy1
  have HYC := Lib.hid hy2
  have HYB := Lib.hid b_y
  have kx := Blk.new w 28 #[.int .i64 xi, .int .i64 xr, .slice xA xn xc]
  have ky := Blk.new (w.alloc (.cells #[.int .i64 xi, .int .i64 xr, .slice xA xn xc] 28)) 28 #[.int .i64 yi, .int .i64 yr, .slice yA yn yc]
  rw [show (w.alloc (.cells #[.int .i64 xi, .int .i64 xr, .slice xA xn xc] 28)).heap.size = w.heap.size + 1 by simp] at ky
  replace kx := Blk.alloc kx (.cells #[.int .i64 yi, .int .i64 yr, .slice yA yn yc] 28)
  have hb := ((gr1 w (.cells #[.int .i64 xi, .int .i64 xr, .slice xA xn xc] 28)).alloc (.cells #[.int .i64 yi, .int .i64 yr, .slice yA yn yc] 28)).below
  have BX := Lib.hid kx
  have RX := Lib.hid (RdK.below hx3 hb)
  have BY := Lib.hid ky
  have RY := Lib.hid (RdK.below hy3 hb)
  have BB := Lib.hid hb
  have HE := Lib.hid hes
  have HEB : Hid (∀ a ∈ es, a.n.length ≤ maxLen ∧ a.t.length ≤ maxLen) := fun a ha => ⟨(hle a ha).1, (hle a ha).2.1⟩
  have HEI : Hid (∀ a ∈ es, -9223372036854775808 ≤ a.i ∧ a.i ≤ 9223372036854775807) := fun a ha => bounds_i64 (hle a ha).2.2
  have HMM : Hid (m ≤ maxLen) := Nat.le_trans hec hem
  have RE := Lib.hid (RdA.below hre hb)
  clear hb hx1 hx2 hx3 kx hy1 hy2 hy3 ky bx b_y hes hle hre hem
  go_enter Try.func7, Try.ntmps7
  go_wp2_with fail
  generalize ((w.alloc (.cells #[.int .i64 xi, .int .i64 xr, .slice xA xn xc] 28)).alloc (.cells #[.int .i64 yi, .int .i64 yr, .slice yA yn yc] 28)) = wo at *
  obtain ⟨x0, x1, x2⟩ := cells3 BX.out
  have hlx := BX.out.lt
  obtain ⟨y0, y1, y2⟩ := cells3 BY.out
  have hly := BY.out.lt
  refine (small_at _).mono ?_
  rintro e wn ⟨rfl, hb⟩
  clear x0 x1 x2 hlx y0 y1 y2 hly
  replace BX := Lib.hid (Blk.below BX.out hb BX.out.lt)
  replace BY := Lib.hid (Blk.below BY.out hb BY.out.lt)
  replace RX := Lib.hid (RdK.below RX.out hb)
  replace RY := Lib.hid (RdK.below RY.out hb)
  replace RE := Lib.hid (RdA.below RE.out hb)
  replace BB := Lib.hid (below_next BB.out (by have := BB.out.size; omega) hb)
  clear hb
  obtain ⟨wo, rfl⟩ : ∃ x : World, x = wn := ⟨_, rfl⟩
  obtain ⟨x0, x1, x2⟩ := cells3 BX.out
  have hlx := BX.out.lt
  obtain ⟨y0, y1, y2⟩ := cells3 BY.out
  have hly := BY.out.lt
  have hb := (gr1 wo (.cells #[.int .i64 xi, .int .i64 xr, .slice xA xn xc, .int .i64 yi, .int .i64 yr, .slice yA yn yc] 28)).below
  have HR : Hid (RdEn (wo.alloc (.cells #[.int .i64 xi, .int .i64 xr, .slice xA xn xc, .int .i64 yi, .int .i64 yr, .slice yA yn yc] 28)) (some ⟨wo.heap.size, 0, none⟩) [⟨xi, xr, xA, xn, xc, xf⟩, ⟨yi, yr, yA, yn, yc, yf⟩]) := ⟨rdk_lit layE wo [⟨xi, xr, xA, xn, xc, xf⟩, ⟨yi, yr, yA, yn, yc, yf⟩] 28 #[.int .i64 xi, .int .i64 xr, .slice xA xn xc, .int .i64 yi, .int .i64 yr, .slice yA yn yc] rfl, fun u hu => by
    simp only [List.mem_cons, List.not_mem_nil, or_false] at hu
    rcases hu with rfl | rfl
    · exact ⟨HXL.out, HXC.out, RdK.below RX.out hb⟩
    · exact ⟨HYL.out, HYC.out, RdK.below RY.out hb⟩⟩
  have HRB : Hid (EBx [⟨xi, xr, xA, xn, xc, xf⟩, ⟨yi, yr, yA, yn, yc, yf⟩]) := ebx_app HXB.out HYB.out
  go_wp2_with fail
  clear x0 x1 x2 hlx y0 y1 y2 hly
  replace BX := Lib.hid (Blk.below BX.out hb BX.out.lt)
  replace BY := Lib.hid (Blk.below BY.out hb BY.out.lt)
  replace RX := Lib.hid (RdK.below RX.out hb)
  replace RY := Lib.hid (RdK.below RY.out hb)
  replace RE := Lib.hid (RdA.below RE.out hb)
  replace BB := Lib.hid (below_next BB.out (by have := BB.out.size; omega) hb)
  clear hb
  generalize (wo.alloc (.cells #[.int .i64 xi, .int .i64 xr, .slice xA xn xc, .int .i64 yi, .int .i64 yr, .slice yA yn yc] 28)) = wo2 at *
  generalize wo.heap.size = pr at *
  obtain ⟨wo, rfl⟩ : ∃ x : World, x = wo2 := ⟨_, rfl⟩
  obtain ⟨x0, x1, x2⟩ := cells3 BX.out
  have hlx := BX.out.lt
  obtain ⟨y0, y1, y2⟩ := cells3 BY.out
  have hly := BY.out.lt
  obtain ⟨q, hq⟩ : ∃ q, fewE [⟨xi, xr, xA, xn, xc, xf⟩, ⟨yi, yr, yA, yn, yc, yf⟩] = q := ⟨_, rfl⟩
  have HQ := Lib.hid hq
  clear hq
  refine (tfew_at (some ⟨pr, 0, none⟩) [⟨xi, xr, xA, xn, xc, xf⟩, ⟨yi, yr, yA, yn, yc, yf⟩] 2 2 rfl (by decide) HRB.out _ HR.out q HQ.out).mono ?_
  rintro e wn ⟨rfl, hb⟩
  clear x0 x1 x2 hlx y0 y1 y2 hly
  replace BX := Lib.hid (Blk.below BX.out hb BX.out.lt)
  replace BY := Lib.hid (Blk.below BY.out hb BY.out.lt)
  replace RX := Lib.hid (RdK.below RX.out hb)
  replace RY := Lib.hid (RdK.below RY.out hb)
  replace RE := Lib.hid (RdA.below RE.out hb)
  replace BB := Lib.hid (below_next BB.out (by have := BB.out.size; omega) hb)
  clear hb
  obtain ⟨wo, rfl⟩ : ∃ x : World, x = wn := ⟨_, rfl⟩
  obtain ⟨x0, x1, x2⟩ := cells3 BX.out
  have hlx := BX.out.lt
  obtain ⟨y0, y1, y2⟩ := cells3 BY.out
  have hly := BY.out.lt
  clear HR
  go_wp2_with fail
  refine (efew_at B es m d HE.out HMM.out HEB.out _ RE.out).mono ?_
  rintro e wn ⟨rfl, rfl⟩
  cases q with
  | false =>
    go_wp2_with fail
    go_ret
    exact ⟨rfl, BB.out⟩
  | true =>
    have hef := few_ef HQ.out HRB.out
    have HXF := Lib.hid (hef ⟨xi, xr, xA, xn, xc, xf⟩ (by simp))
    have HYF := Lib.hid (hef ⟨yi, yr, yA, yn, yc, yf⟩ (by simp))
    clear hef HQ HRB HXB HYB
    by_cases hev : Ev.Few es
    · have hd : decide (Ev.Few es) = true := decide_eq_true hev
      rw [hd]
      clear hd hev
      go_wp2_with fail
      refine (eright_at B es m d HE.out HMM.out HEB.out _ RE.out).mono ?_
      rintro e wn ⟨rfl, hg⟩
      clear x0 x1 x2 hlx y0 y1 y2 hly
      have hb := hg.below
      clear hg
      replace BX := Lib.hid (Blk.below BX.out hb BX.out.lt)
      replace BY := Lib.hid (Blk.below BY.out hb BY.out.lt)
      replace RX := Lib.hid (RdK.below RX.out hb)
      replace RY := Lib.hid (RdK.below RY.out hb)
      replace RE := Lib.hid (RdA.below RE.out hb)
      replace BB := Lib.hid (below_next BB.out (by have := BB.out.size; omega) hb)
      clear hb
      obtain ⟨wo, rfl⟩ : ∃ x : World, x = wn := ⟨_, rfl⟩
      obtain ⟨x0, x1, x2⟩ := cells3 BX.out
      have hlx := BX.out.lt
      obtain ⟨y0, y1, y2⟩ := cells3 BY.out
      have hly := BY.out.lt
      by_cases hri : Ev.Right es
      · have hd : decide (Ev.Right es) = true := decide_eq_true hri
        rw [hd]
        have HEV : Hid (Fil.EvR es) := ⟨hri, HEI.out⟩
        clear hd hri
        obtain ⟨qxy, h⟩ := abv_ex ⟨xi, xr, xA, xn, xc, xf⟩ ⟨yi, yr, yA, yn, yc, yf⟩
        have Qxy := Lib.hid h
        clear h
        go_wp2_with fail
        refine (above_at ⟨xi, xr, xA, xn, xc, xf⟩ ⟨yi, yr, yA, yn, yc, yf⟩ HXL.out HXF.out.1 HXF.out.2 HYL.out HYF.out.1 HYF.out.2 _ RX.out RY.out qxy Qxy.out).mono ?_
        rintro e wn ⟨rfl, hb⟩
        clear x0 x1 x2 hlx y0 y1 y2 hly
        replace BX := Lib.hid (Blk.below BX.out hb BX.out.lt)
        replace BY := Lib.hid (Blk.below BY.out hb BY.out.lt)
        replace RX := Lib.hid (RdK.below RX.out hb)
        replace RY := Lib.hid (RdK.below RY.out hb)
        replace RE := Lib.hid (RdA.below RE.out hb)
        replace BB := Lib.hid (below_next BB.out (by have := BB.out.size; omega) hb)
        clear hb
        obtain ⟨wo, rfl⟩ : ∃ x : World, x = wn := ⟨_, rfl⟩
        obtain ⟨x0, x1, x2⟩ := cells3 BX.out
        have hlx := BX.out.lt
        obtain ⟨y0, y1, y2⟩ := cells3 BY.out
        have hly := BY.out.lt
        cases qxy with
        | false =>
          go_wp2_with fail
          go_ret
          exact ⟨rfl, BB.out⟩
        | true =>
          have HC : Hid (Fil.Cov xf yf) := (Qxy.out.1 rfl).2.1
          clear Qxy
          cases hmg : Fil.meets yf es with
          | false =>
            have HMG := Lib.hid hmg
            clear hmg
            go_wp2_with fail
            refine (fmeets_at yA yf yn yc HYL.out (Nat.le_trans HYF.out.1 (by decide)) HYF.out.2 B es m d HE.out HMM.out HEB.out _ RY.out RE.out false HMG.out).mono ?_
            rintro e wn ⟨rfl, hb⟩
            clear x0 x1 x2 hlx y0 y1 y2 hly
            replace BX := Lib.hid (Blk.below BX.out hb BX.out.lt)
            replace BY := Lib.hid (Blk.below BY.out hb BY.out.lt)
            replace RX := Lib.hid (RdK.below RX.out hb)
            replace RY := Lib.hid (RdK.below RY.out hb)
            replace RE := Lib.hid (RdA.below RE.out hb)
            replace BB := Lib.hid (below_next BB.out (by have := BB.out.size; omega) hb)
            clear hb
            obtain ⟨wo, rfl⟩ : ∃ x : World, x = wn := ⟨_, rfl⟩
            obtain ⟨x0, x1, x2⟩ := cells3 BX.out
            have hlx := BX.out.lt
            obtain ⟨y0, y1, y2⟩ := cells3 BY.out
            have hly := BY.out.lt
            go_wp2_with fail
            go_ret
            exact ⟨rfl, BB.out⟩
          | true =>
            have HMG := Lib.hid hmg
            clear hmg
            have HMF : Hid (Fil.meets xf es = true) := HC.out.meets HEV.out HMG.out
            go_wp2_with fail
            refine (fmeets_at yA yf yn yc HYL.out (Nat.le_trans HYF.out.1 (by decide)) HYF.out.2 B es m d HE.out HMM.out HEB.out _ RY.out RE.out true HMG.out).mono ?_
            rintro e wn ⟨rfl, hb⟩
            clear x0 x1 x2 hlx y0 y1 y2 hly
            replace BX := Lib.hid (Blk.below BX.out hb BX.out.lt)
            replace BY := Lib.hid (Blk.below BY.out hb BY.out.lt)
            replace RX := Lib.hid (RdK.below RX.out hb)
            replace RY := Lib.hid (RdK.below RY.out hb)
            replace RE := Lib.hid (RdA.below RE.out hb)
            replace BB := Lib.hid (below_next BB.out (by have := BB.out.size; omega) hb)
            clear hb
            obtain ⟨wo, rfl⟩ : ∃ x : World, x = wn := ⟨_, rfl⟩
            obtain ⟨x0, x1, x2⟩ := cells3 BX.out
            have hlx := BX.out.lt
            obtain ⟨y0, y1, y2⟩ := cells3 BY.out
            have hly := BY.out.lt
            go_wp2_with fail
            refine (fmeets_at xA xf xn xc HXL.out (Nat.le_trans HXF.out.1 (by decide)) HXF.out.2 B es m d HE.out HMM.out HEB.out _ RX.out RE.out true HMF.out).mono ?_
            rintro e wn ⟨rfl, hb⟩
            clear x0 x1 x2 hlx y0 y1 y2 hly
            replace BX := Lib.hid (Blk.below BX.out hb BX.out.lt)
            replace BY := Lib.hid (Blk.below BY.out hb BY.out.lt)
            replace RX := Lib.hid (RdK.below RX.out hb)
            replace RY := Lib.hid (RdK.below RY.out hb)
            replace RE := Lib.hid (RdA.below RE.out hb)
            replace BB := Lib.hid (below_next BB.out (by have := BB.out.size; omega) hb)
            clear hb
            obtain ⟨wo, rfl⟩ : ∃ x : World, x = wn := ⟨_, rfl⟩
            obtain ⟨x0, x1, x2⟩ := cells3 BX.out
            have hlx := BX.out.lt
            obtain ⟨y0, y1, y2⟩ := cells3 BY.out
            have hly := BY.out.lt
            go_wp2_with fail
            go_ret
            exact ⟨rfl, BB.out⟩
      · have hd : decide (Ev.Right es) = false := decide_eq_false hri
        rw [hd]
        clear hd hri
        go_wp2_with fail
        go_ret
        exact ⟨rfl, BB.out⟩
    · have hd : decide (Ev.Few es) = false := decide_eq_false hev
      rw [hd]
      clear hd hev
      go_wp2_with fail
      go_ret
      exact ⟨rfl, BB.out⟩

/-! ### The row's step. -/
namespace posetMeets
theorem own : ownKnob Try.prog.godebug = none := by kernel_rfl
theorem laidOut : laidOutB Try.prog = true := by kernel_rfl
set_option linter.unusedVariables false in
set_option maxRecDepth 100000 in
theorem lifted (os : Os) (started : os.Started) (H : Type) (enc : TypeId × Value → H) :
    ReturnsInHanded {} Try.checked os 7 .any (Rows.posetMeetsSpec.pre6 enc Try.prog Try.f7 Rows.posetMeetsRow.domain false) (Rows.posetMeetsSpec.post enc Try.prog Try.f7 false true false false) := by
  refine returnsInHanded_of_change_sized (C := Try.checked) own started (by kernel_rfl) Try.func7
    (ChangeSpec.witness6 (enc := enc) (C := Try.checked) false ⟨#[], #[.agg #[.int .i64 0, .int .i64 0, .slice none 0 0], .agg #[.int .i64 0, .int .i64 0, .slice none 0 0], .slice none 0 0], []⟩ 8 (by kernel_rfl) (by kernel_rfl) (by kernel_rfl) (by kernel_rfl)) ?_
  intro W base args ds gs before hval0 hW hcnd hsz0 _
  have hval : ∀ (j : Nat) t v, Try.f7.params[j]? = some t → args[j]? = some v → Value.okWide Try.prog W .any base t v := hval0
  have hsz : (DataW.weightsEach Try.prog (Try.f7.params.toList ++ Rows.posetMeetsSpec.plain.varTypes Try.prog) (ds ++ gs)).all (· ≤ reachBytes) = true := hsz0
  have hW' := hW
  obtain ⟨p, q, hA0, hV, rfl, hfz, hnd⟩ := hW
  have hA : DataW.TrodAll enc Try.prog W 0 (fun _ => true) true Try.f7.params.toList args.toList ds p := hA0
  rw [Try.params7] at hA hval hsz
  obtain ⟨v0, vs0, d0, ds0, p0, q0, hargs, rfl, rfl, h0, r0⟩ := trodAll_cons hA
  obtain ⟨v1, vs1, d1, ds1, p1, q1, rfl, rfl, rfl, h1, r1⟩ := trodAll_cons r0
  obtain ⟨v2, vs2, d2, ds2, p2, q2, rfl, rfl, rfl, h2, r2⟩ := trodAll_cons r1
  obtain ⟨rfl, rfl, rfl⟩ := trodAll_nil r2
  obtain rfl : args = #[v0, v1, v2] := by cases args; simp_all
  obtain ⟨rfl, rfl⟩ := trodVars_none hV
  obtain ⟨x0, rfl, fx0, bx0⟩ := open_entry (hval 0 28 v0 rfl rfl) h0 (fun n hn => by simpa using List.all_eq_true.1 hsz n (DataW.weights_mem_each (j := 0) rfl rfl n hn))
  have k0 := h0
  have lt0 : ∀ x ∈ p0, x.block < W.heap.size := by obtain ⟨m, hm⟩ := k0; exact DataW.trod_lt m _ _ _ hm
  obtain ⟨x1, rfl, fx1, bx1⟩ := open_entry (hval 1 28 v1 rfl rfl) h1 (fun n hn => by simpa using List.all_eq_true.1 hsz n (DataW.weights_mem_each (j := 1) rfl rfl n hn))
  have k1 := h1
  have lt1 : ∀ x ∈ p1, x.block < W.heap.size := by obtain ⟨m, hm⟩ := k1; exact DataW.trod_lt m _ _ _ hm
  obtain ⟨a2, len2, cap2, rfl⟩ := okWide_slice Try.underlying39 (hval 2 39 v2 rfl rfl)
  have k2 := h2
  have lt2 : ∀ x ∈ p2, x.block < W.heap.size := by obtain ⟨m, hm⟩ := k2; exact DataW.trod_lt m _ _ _ hm
  obtain ⟨es2, hl2, hc2, hm2, rd2, hw2⟩ := open_attrs_w Try.underlying39 Try.underlying62 (by kernel_rfl) ⟨rfl, rfl, by kernel_rfl⟩ ⟨rfl, rfl, by kernel_rfl⟩ Try.underlying9 Try.underlying45 ⟨rfl, rfl, by kernel_rfl⟩ ⟨rfl, rfl, by kernel_rfl⟩ ⟨rfl, rfl, by kernel_rfl⟩ Try.underlying3 Try.underlying3 Try.underlying9 k2
  clear hA0 hval0
  refine (walk_PosetMeets W x0 fx0 bx0 x1 fx1 bx1 a2 es2 len2 cap2 hl2 hc2 hm2 rd2 hw2).mono fun e W' ⟨he, bel⟩ => ?_
  subst he
  exact ⟨_, rfl, _, _, _, [], _, [], hW', trodAll_mk1 (shut_bool Try.underlying4 _), (trodAll_cons_mk (Below.trod laidOut (by kernel_rfl) (of_decide_eq_true (by kernel_rfl)) k0 bel lt0) (trodAll_cons_mk (Below.trod laidOut (by kernel_rfl) (of_decide_eq_true (by kernel_rfl)) k1 bel lt1) (trodAll_cons_mk (Below.trod laidOut (by kernel_rfl) (of_decide_eq_true (by kernel_rfl)) k2 bel lt2) trodAll_mk0))), rfl, bel.frame _, fun h => by cases h⟩
theorem over : Rows.posetMeetsRow.holds Try.pinned (OpenSpec.ofChange Rows.posetMeetsSpec) :=
  OpenClaim.holds_of_wide 7 Try.f7 rfl rfl rfl rfl rfl rfl rfl ⟨rfl, rfl, rfl, rfl, rfl⟩ rfl rfl rfl rfl rfl (by kernel_rfl) Try.func7 (by kernel_rfl)
    (of_decide_eq_true (by kernel_rfl)) (by unfold Func.isWrapper; first | (rw [if_pos (by decide +kernel)]; kernel_rfl) | (rw [if_neg (by decide +kernel)]; exact ⟨rfl, rfl⟩))
    (fun os started H enc _ => lifted os started H enc)
end posetMeets
/-- THE STATEMENT. -/
theorem posetMeets_holds : Rows.PosetMeetsSaid := posetMeets.over
#print axioms posetMeets_holds
end Go.Proofs.Ytckabmlilbkmbaa
