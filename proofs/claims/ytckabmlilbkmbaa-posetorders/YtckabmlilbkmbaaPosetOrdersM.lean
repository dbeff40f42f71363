/-
  Above is an order: not of itself, not both ways, and handed on: for every three entries the call of the law answers true, and all arguments read behind it as they read before. No condition.
-/
import Derived.Test.YtckabmlilbkmbaaP4
namespace Go.Proofs.Ytckabmlilbkmbaa
open Go.RowKit Go.ChangeShapes Go.WideShapes Go.ChangeAt Go.Sort Spans Tb
set_option maxRecDepth 100000 in
set_option maxHeartbeats 8000000 in
theorem walk_PosetOrders (w : World) (x : Ex) (fx : Flt w x) (bx : EBx [x]) (y : Ex) (fy : Flt w y) (by_ : EBx [y]) (z : Ex) (fz : Flt w z) (bz : EBx [z]) :
    Calls Try.prog 4 #[exV x, exV y, exV z] w fun e w' => e = .returned (.bool true) ∧ Below w.heap.size w w' := by
  have b_y := by_
  obtain ⟨xi, xr, xA, xn, xc, xf⟩ := x
  obtain ⟨hx1, hx2, hx3⟩ := fx
  dsimp only at hx1 hx2 hx3
  have HXL := Lib.hid hx1
  have HXC := Lib.hid hx2
  have HXB := Lib.hid bx
  obtain ⟨yi, yr, yA, yn, yc, yf⟩ := y
  obtain ⟨hy1, hy2, hy3⟩ := fy
  dsimp only at hy1 hy2 hy3
  have HYL := Lib.hid hy1
  have HYC := Lib.hid hy2
  have HYB := Lib.hid b_y
  obtain ⟨zi, zr, zA, zn, zc, zf⟩ := z
  obtain ⟨hz1, hz2, hz3⟩ := fz
  dsimp only at hz1 hz2 hz3
  have HZL := Lib.hid hz1
  have HZC := Lib.hid hz2
  have HZB := Lib.hid bz
  have kx := Blk.new w 28 #[.int .i64 xi, .int .i64 xr, .slice xA xn xc]
  have ky := Blk.new (w.alloc (.cells #[.int .i64 xi, .int .i64 xr, .slice xA xn xc] 28)) 28 #[.int .i64 yi, .int .i64 yr, .slice yA yn yc]
  rw [show (w.alloc (.cells #[.int .i64 xi, .int .i64 xr, .slice xA xn xc] 28)).heap.size = w.heap.size + 1 by simp] at ky
  replace kx := Blk.alloc kx (.cells #[.int .i64 yi, .int .i64 yr, .slice yA yn yc] 28)
  have kz := Blk.new ((w.alloc (.cells #[.int .i64 xi, .int .i64 xr, .slice xA xn xc] 28)).alloc (.cells #[.int .i64 yi, .int .i64 yr, .slice yA yn yc] 28)) 28 #[.int .i64 zi, .int .i64 zr, .slice zA zn zc]
  rw [show ((w.alloc (.cells #[.int .i64 xi, .int .i64 xr, .slice xA xn xc] 28)).alloc (.cells #[.int .i64 yi, .int .i64 yr, .slice yA yn yc] 28)).heap.size = w.heap.size + 2 by simp] at kz
  replace kx := Blk.alloc kx (.cells #[.int .i64 zi, .int .i64 zr, .slice zA zn zc] 28)
  replace ky := Blk.alloc ky (.cells #[.int .i64 zi, .int .i64 zr, .slice zA zn zc] 28)
  have hb := (((gr1 w (.cells #[.int .i64 xi, .int .i64 xr, .slice xA xn xc] 28)).alloc (.cells #[.int .i64 yi, .int .i64 yr, .slice yA yn yc] 28)).alloc (.cells #[.int .i64 zi, .int .i64 zr, .slice zA zn zc] 28)).below
  have BX := Lib.hid kx
  have RX := Lib.hid (RdK.below hx3 hb)
  have BY := Lib.hid ky
  have RY := Lib.hid (RdK.below hy3 hb)
  have BZ := Lib.hid kz
  have RZ := Lib.hid (RdK.below hz3 hb)
  have BB := Lib.hid hb
  clear hb hx1 hx2 hx3 kx hy1 hy2 hy3 ky hz1 hz2 hz3 kz bx b_y by_ bz
  go_enter Try.func4, Try.ntmps4
  go_wp2_with fail
  generalize (((w.alloc (.cells #[.int .i64 xi, .int .i64 xr, .slice xA xn xc] 28)).alloc (.cells #[.int .i64 yi, .int .i64 yr, .slice yA yn yc] 28)).alloc (.cells #[.int .i64 zi, .int .i64 zr, .slice zA zn zc] 28)) = wo at *
  obtain ⟨x0, x1, x2⟩ := cells3 BX.out
  have hlx := BX.out.lt
  obtain ⟨y0, y1, y2⟩ := cells3 BY.out
  have hly := BY.out.lt
  obtain ⟨z0, z1, z2⟩ := cells3 BZ.out
  have hlz := BZ.out.lt
  refine (small_at _).mono ?_
  rintro e wn ⟨rfl, hb⟩
  clear x0 x1 x2 hlx y0 y1 y2 hly z0 z1 z2 hlz
  replace BX := Lib.hid (Blk.below BX.out hb BX.out.lt)
  replace BY := Lib.hid (Blk.below BY.out hb BY.out.lt)
  replace BZ := Lib.hid (Blk.below BZ.out hb BZ.out.lt)
  replace RX := Lib.hid (RdK.below RX.out hb)
  replace RY := Lib.hid (RdK.below RY.out hb)
  replace RZ := Lib.hid (RdK.below RZ.out hb)
  replace BB := Lib.hid (below_next BB.out (by have := BB.out.size; omega) hb)
  clear hb
  obtain ⟨wo, rfl⟩ : ∃ x : World, x = wn := ⟨_, rfl⟩
  obtain ⟨x0, x1, x2⟩ := cells3 BX.out
  have hlx := BX.out.lt
  obtain ⟨y0, y1, y2⟩ := cells3 BY.out
  have hly := BY.out.lt
  obtain ⟨z0, z1, z2⟩ := cells3 BZ.out
  have hlz := BZ.out.lt
  have hb := (gr1 wo (.cells #[.int .i64 xi, .int .i64 xr, .slice xA xn xc, .int .i64 yi, .int .i64 yr, .slice yA yn yc, .int .i64 zi, .int .i64 zr, .slice zA zn zc] 28)).below
  have HE : Hid (RdEn (wo.alloc (.cells #[.int .i64 xi, .int .i64 xr, .slice xA xn xc, .int .i64 yi, .int .i64 yr, .slice yA yn yc, .int .i64 zi, .int .i64 zr, .slice zA zn zc] 28)) (some ⟨wo.heap.size, 0, none⟩) [⟨xi, xr, xA, xn, xc, xf⟩, ⟨yi, yr, yA, yn, yc, yf⟩, ⟨zi, zr, zA, zn, zc, zf⟩]) := ⟨rdk_lit layE wo [⟨xi, xr, xA, xn, xc, xf⟩, ⟨yi, yr, yA, yn, yc, yf⟩, ⟨zi, zr, zA, zn, zc, zf⟩] 28 #[.int .i64 xi, .int .i64 xr, .slice xA xn xc, .int .i64 yi, .int .i64 yr, .slice yA yn yc, .int .i64 zi, .int .i64 zr, .slice zA zn zc] rfl, fun u hu => by
    simp only [List.mem_cons, List.not_mem_nil, or_false] at hu
    rcases hu with rfl | rfl | rfl
    · exact ⟨HXL.out, HXC.out, RdK.below RX.out hb⟩
    · exact ⟨HYL.out, HYC.out, RdK.below RY.out hb⟩
    · exact ⟨HZL.out, HZC.out, RdK.below RZ.out hb⟩⟩
  have HEB : Hid (EBx [⟨xi, xr, xA, xn, xc, xf⟩, ⟨yi, yr, yA, yn, yc, yf⟩, ⟨zi, zr, zA, zn, zc, zf⟩]) := ebx_app HXB.out (ebx_app HYB.out HZB.out)
  go_wp2_with fail
  clear x0 x1 x2 hlx y0 y1 y2 hly z0 z1 z2 hlz
  replace BX := Lib.hid (Blk.below BX.out hb BX.out.lt)
  replace BY := Lib.hid (Blk.below BY.out hb BY.out.lt)
  replace BZ := Lib.hid (Blk.below BZ.out hb BZ.out.lt)
  replace RX := Lib.hid (RdK.below RX.out hb)
  replace RY := Lib.hid (RdK.below RY.out hb)
  replace RZ := Lib.hid (RdK.below RZ.out hb)
  replace BB := Lib.hid (below_next BB.out (by have := BB.out.size; omega) hb)
  clear hb
  generalize (wo.alloc (.cells #[.int .i64 xi, .int .i64 xr, .slice xA xn xc, .int .i64 yi, .int .i64 yr, .slice yA yn yc, .int .i64 zi, .int .i64 zr, .slice zA zn zc] 28)) = wo2 at *
  generalize wo.heap.size = pr at *
  obtain ⟨wo, rfl⟩ : ∃ x : World, x = wo2 := ⟨_, rfl⟩
  obtain ⟨x0, x1, x2⟩ := cells3 BX.out
  have hlx := BX.out.lt
  obtain ⟨y0, y1, y2⟩ := cells3 BY.out
  have hly := BY.out.lt
  obtain ⟨z0, z1, z2⟩ := cells3 BZ.out
  have hlz := BZ.out.lt
  obtain ⟨q, hq⟩ : ∃ q, fewE [⟨xi, xr, xA, xn, xc, xf⟩, ⟨yi, yr, yA, yn, yc, yf⟩, ⟨zi, zr, zA, zn, zc, zf⟩] = q := ⟨_, rfl⟩
  have HQ := Lib.hid hq
  clear hq
  refine (tfew_at (some ⟨pr, 0, none⟩) [⟨xi, xr, xA, xn, xc, xf⟩, ⟨yi, yr, yA, yn, yc, yf⟩, ⟨zi, zr, zA, zn, zc, zf⟩] 3 3 rfl (by decide) HEB.out _ HE.out q HQ.out).mono ?_
  rintro e wn ⟨rfl, hb⟩
  clear x0 x1 x2 hlx y0 y1 y2 hly z0 z1 z2 hlz
  replace BX := Lib.hid (Blk.below BX.out hb BX.out.lt)
  replace BY := Lib.hid (Blk.below BY.out hb BY.out.lt)
  replace BZ := Lib.hid (Blk.below BZ.out hb BZ.out.lt)
  replace RX := Lib.hid (RdK.below RX.out hb)
  replace RY := Lib.hid (RdK.below RY.out hb)
  replace RZ := Lib.hid (RdK.below RZ.out hb)
  replace BB := Lib.hid (below_next BB.out (by have := BB.out.size; omega) hb)
  clear hb
  obtain ⟨wo, rfl⟩ : ∃ x : World, x = wn := ⟨_, rfl⟩
  obtain ⟨x0, x1, x2⟩ := cells3 BX.out
  have hlx := BX.out.lt
  obtain ⟨y0, y1, y2⟩ := cells3 BY.out
  have hly := BY.out.lt
  obtain ⟨z0, z1, z2⟩ := cells3 BZ.out
  have hlz := BZ.out.lt
  clear HE
  cases q with
  | false =>
    go_wp2_with fail
    go_ret
    exact ⟨rfl, BB.out⟩
  | true =>
    have hef := few_ef HQ.out HEB.out
    have HXF := Lib.hid (hef ⟨xi, xr, xA, xn, xc, xf⟩ (by simp))
    have HYF := Lib.hid (hef ⟨yi, yr, yA, yn, yc, yf⟩ (by simp))
    have HZF := Lib.hid (hef ⟨zi, zr, zA, zn, zc, zf⟩ (by simp))
    clear hef HQ HEB HXB HYB HZB
    by_cases hxy : xi = yi
    · have dxy : (xi == yi) = true := beq_iff_eq.2 hxy
      go_wp2_with fail
      go_ret
      exact ⟨rfl, BB.out⟩
    have dxy : (xi == yi) = false := beq_eq_false_iff_ne.2 hxy
    by_cases hyz : yi = zi
    · have dyz : (yi == zi) = true := beq_iff_eq.2 hyz
      go_wp2_with fail
      go_ret
      exact ⟨rfl, BB.out⟩
    have dyz : (yi == zi) = false := beq_eq_false_iff_ne.2 hyz
    by_cases hxz : xi = zi
    · have dxz : (xi == zi) = true := beq_iff_eq.2 hxz
      go_wp2_with fail
      go_ret
      exact ⟨rfl, BB.out⟩
    have dxz : (xi == zi) = false := beq_eq_false_iff_ne.2 hxz
    have HXY := Lib.hid hxy
    have HYZ := Lib.hid hyz
    have HXZ := Lib.hid hxz
    clear hxy hyz hxz
    obtain ⟨qxy, h⟩ := abv_ex ⟨xi, xr, xA, xn, xc, xf⟩ ⟨yi, yr, yA, yn, yc, yf⟩
    have Qxy := Lib.hid h
    clear h
    obtain ⟨qyz, h⟩ := abv_ex ⟨yi, yr, yA, yn, yc, yf⟩ ⟨zi, zr, zA, zn, zc, zf⟩
    have Qyz := Lib.hid h
    clear h
    obtain ⟨qxz, h⟩ := abv_ex ⟨xi, xr, xA, xn, xc, xf⟩ ⟨zi, zr, zA, zn, zc, zf⟩
    have Qxz := Lib.hid h
    clear h
    obtain ⟨qyx, h⟩ := abv_ex ⟨yi, yr, yA, yn, yc, yf⟩ ⟨xi, xr, xA, xn, xc, xf⟩
    have Qyx := Lib.hid h
    clear h
    go_wp2_with fail
    clear dxy dyz dxz
    refine (above_at ⟨xi, xr, xA, xn, xc, xf⟩ ⟨yi, yr, yA, yn, yc, yf⟩ HXL.out HXF.out.1 HXF.out.2 HYL.out HYF.out.1 HYF.out.2 _ RX.out RY.out qxy Qxy.out).mono ?_
    rintro e wn ⟨rfl, hb⟩
    clear x0 x1 x2 hlx y0 y1 y2 hly z0 z1 z2 hlz
    replace BX := Lib.hid (Blk.below BX.out hb BX.out.lt)
    replace BY := Lib.hid (Blk.below BY.out hb BY.out.lt)
    replace BZ := Lib.hid (Blk.below BZ.out hb BZ.out.lt)
    replace RX := Lib.hid (RdK.below RX.out hb)
    replace RY := Lib.hid (RdK.below RY.out hb)
    replace RZ := Lib.hid (RdK.below RZ.out hb)
    replace BB := Lib.hid (below_next BB.out (by have := BB.out.size; omega) hb)
    clear hb
    obtain ⟨wo, rfl⟩ : ∃ x : World, x = wn := ⟨_, rfl⟩
    obtain ⟨x0, x1, x2⟩ := cells3 BX.out
    have hlx := BX.out.lt
    obtain ⟨y0, y1, y2⟩ := cells3 BY.out
    have hly := BY.out.lt
    obtain ⟨z0, z1, z2⟩ := cells3 BZ.out
    have hlz := BZ.out.lt
    go_wp2_with fail
    refine (above_at ⟨yi, yr, yA, yn, yc, yf⟩ ⟨zi, zr, zA, zn, zc, zf⟩ HYL.out HYF.out.1 HYF.out.2 HZL.out HZF.out.1 HZF.out.2 _ RY.out RZ.out qyz Qyz.out).mono ?_
    rintro e wn ⟨rfl, hb⟩
    clear x0 x1 x2 hlx y0 y1 y2 hly z0 z1 z2 hlz
    replace BX := Lib.hid (Blk.below BX.out hb BX.out.lt)
    replace BY := Lib.hid (Blk.below BY.out hb BY.out.lt)
    replace BZ := Lib.hid (Blk.below BZ.out hb BZ.out.lt)
    replace RX := Lib.hid (RdK.below RX.out hb)
    replace RY := Lib.hid (RdK.below RY.out hb)
    replace RZ := Lib.hid (RdK.below RZ.out hb)
    replace BB := Lib.hid (below_next BB.out (by have := BB.out.size; omega) hb)
    clear hb
    obtain ⟨wo, rfl⟩ : ∃ x : World, x = wn := ⟨_, rfl⟩
    obtain ⟨x0, x1, x2⟩ := cells3 BX.out
    have hlx := BX.out.lt
    obtain ⟨y0, y1, y2⟩ := cells3 BY.out
    have hly := BY.out.lt
    obtain ⟨z0, z1, z2⟩ := cells3 BZ.out
    have hlz := BZ.out.lt
    go_wp2_with fail
    refine (above_at ⟨xi, xr, xA, xn, xc, xf⟩ ⟨xi, xr, xA, xn, xc, xf⟩ HXL.out HXF.out.1 HXF.out.2 HXL.out HXF.out.1 HXF.out.2 _ RX.out RX.out false ⟨fun h => (by cases h), fun h => absurd rfl h.1⟩).mono ?_
    rintro e wn ⟨rfl, hb⟩
    clear x0 x1 x2 hlx y0 y1 y2 hly z0 z1 z2 hlz
    replace BX := Lib.hid (Blk.below BX.out hb BX.out.lt)
    replace BY := Lib.hid (Blk.below BY.out hb BY.out.lt)
    replace BZ := Lib.hid (Blk.below BZ.out hb BZ.out.lt)
    replace RX := Lib.hid (RdK.below RX.out hb)
    replace RY := Lib.hid (RdK.below RY.out hb)
    replace RZ := Lib.hid (RdK.below RZ.out hb)
    replace BB := Lib.hid (below_next BB.out (by have := BB.out.size; omega) hb)
    clear hb
    obtain ⟨wo, rfl⟩ : ∃ x : World, x = wn := ⟨_, rfl⟩
    obtain ⟨x0, x1, x2⟩ := cells3 BX.out
    have hlx := BX.out.lt
    obtain ⟨y0, y1, y2⟩ := cells3 BY.out
    have hly := BY.out.lt
    obtain ⟨z0, z1, z2⟩ := cells3 BZ.out
    have hlz := BZ.out.lt
    obtain ⟨qc, hqc⟩ := prop_ex (Fil.Cov xf yf)
    have QC := Lib.hid hqc
    clear hqc
    cases qxy with
    | false =>
      go_wp2_with fail
      go_ret
      exact ⟨rfl, BB.out⟩
    | true =>
      have hxy0 := Qxy.out.1 rfl
      have HC : Hid (Fil.Cov xf yf) := hxy0.2.1
      obtain rfl : qyx = false := by
        cases qyx with
        | false => rfl
        | true => exact absurd (Qyx.out.1 rfl) hxy0.asym
      have HA : Hid (qyz = true → qxz = true) := fun h => Qxz.out.2 (hxy0.trans (Qyz.out.1 h) HXZ.out)
      have QX : Hid (false = true ↔ Po.Abv yi yf xi xf) := Qyx.out
      clear Qyx hxy0
      go_wp2_with fail
      refine (above_at ⟨yi, yr, yA, yn, yc, yf⟩ ⟨xi, xr, xA, xn, xc, xf⟩ HYL.out HYF.out.1 HYF.out.2 HXL.out HXF.out.1 HXF.out.2 _ RY.out RX.out false QX.out).mono ?_
      rintro e wn ⟨rfl, hb⟩
      clear x0 x1 x2 hlx y0 y1 y2 hly z0 z1 z2 hlz
      replace BX := Lib.hid (Blk.below BX.out hb BX.out.lt)
      replace BY := Lib.hid (Blk.below BY.out hb BY.out.lt)
      replace BZ := Lib.hid (Blk.below BZ.out hb BZ.out.lt)
      replace RX := Lib.hid (RdK.below RX.out hb)
      replace RY := Lib.hid (RdK.below RY.out hb)
      replace RZ := Lib.hid (RdK.below RZ.out hb)
      replace BB := Lib.hid (below_next BB.out (by have := BB.out.size; omega) hb)
      clear hb
      obtain ⟨wo, rfl⟩ : ∃ x : World, x = wn := ⟨_, rfl⟩
      obtain ⟨x0, x1, x2⟩ := cells3 BX.out
      have hlx := BX.out.lt
      obtain ⟨y0, y1, y2⟩ := cells3 BY.out
      have hly := BY.out.lt
      obtain ⟨z0, z1, z2⟩ := cells3 BZ.out
      have hlz := BZ.out.lt
      cases qyz with
      | false =>
        go_wp2_with fail
        refine (covers_at xA xf xn xc HXL.out HXF.out.1 HXF.out.2 yA yf yn yc HYL.out HYF.out.1 HYF.out.2 _ RX.out RY.out).mono ?_
        rintro e wn ⟨qv, rfl, hqv, hb⟩
        clear x0 x1 x2 hlx y0 y1 y2 hly z0 z1 z2 hlz
        obtain rfl : qv = true := hqv.2 HC.out
        clear hqv
        replace BX := Lib.hid (Blk.below BX.out hb BX.out.lt)
        replace BY := Lib.hid (Blk.below BY.out hb BY.out.lt)
        replace BZ := Lib.hid (Blk.below BZ.out hb BZ.out.lt)
        replace RX := Lib.hid (RdK.below RX.out hb)
        replace RY := Lib.hid (RdK.below RY.out hb)
        replace RZ := Lib.hid (RdK.below RZ.out hb)
        replace BB := Lib.hid (below_next BB.out (by have := BB.out.size; omega) hb)
        clear hb
        obtain ⟨wo, rfl⟩ : ∃ x : World, x = wn := ⟨_, rfl⟩
        obtain ⟨x0, x1, x2⟩ := cells3 BX.out
        have hlx := BX.out.lt
        obtain ⟨y0, y1, y2⟩ := cells3 BY.out
        have hly := BY.out.lt
        obtain ⟨z0, z1, z2⟩ := cells3 BZ.out
        have hlz := BZ.out.lt
        go_wp2_with fail
        go_ret
        exact ⟨rfl, BB.out⟩
      | true =>
        obtain rfl : qxz = true := HA.out rfl
        have QZ : Hid (Po.Abv xi xf zi zf) := Qxz.out.1 rfl
        clear Qxz
        go_wp2_with fail
        refine (above_at ⟨xi, xr, xA, xn, xc, xf⟩ ⟨zi, zr, zA, zn, zc, zf⟩ HXL.out HXF.out.1 HXF.out.2 HZL.out HZF.out.1 HZF.out.2 _ RX.out RZ.out true ⟨fun _ => QZ.out, fun _ => rfl⟩).mono ?_
        rintro e wn ⟨rfl, hb⟩
        clear x0 x1 x2 hlx y0 y1 y2 hly z0 z1 z2 hlz
        replace BX := Lib.hid (Blk.below BX.out hb BX.out.lt)
        replace BY := Lib.hid (Blk.below BY.out hb BY.out.lt)
        replace BZ := Lib.hid (Blk.below BZ.out hb BZ.out.lt)
        replace RX := Lib.hid (RdK.below RX.out hb)
        replace RY := Lib.hid (RdK.below RY.out hb)
        replace RZ := Lib.hid (RdK.below RZ.out hb)
        replace BB := Lib.hid (below_next BB.out (by have := BB.out.size; omega) hb)
        clear hb
        obtain ⟨wo, rfl⟩ : ∃ x : World, x = wn := ⟨_, rfl⟩
        obtain ⟨x0, x1, x2⟩ := cells3 BX.out
        have hlx := BX.out.lt
        obtain ⟨y0, y1, y2⟩ := cells3 BY.out
        have hly := BY.out.lt
        obtain ⟨z0, z1, z2⟩ := cells3 BZ.out
        have hlz := BZ.out.lt
        go_wp2_with fail
        refine (covers_at xA xf xn xc HXL.out HXF.out.1 HXF.out.2 yA yf yn yc HYL.out HYF.out.1 HYF.out.2 _ RX.out RY.out).mono ?_
        rintro e wn ⟨qv, rfl, hqv, hb⟩
        clear x0 x1 x2 hlx y0 y1 y2 hly z0 z1 z2 hlz
        obtain rfl : qv = true := hqv.2 HC.out
        clear hqv
        replace BX := Lib.hid (Blk.below BX.out hb BX.out.lt)
        replace BY := Lib.hid (Blk.below BY.out hb BY.out.lt)
        replace BZ := Lib.hid (Blk.below BZ.out hb BZ.out.lt)
        replace RX := Lib.hid (RdK.below RX.out hb)
        replace RY := Lib.hid (RdK.below RY.out hb)
        replace RZ := Lib.hid (RdK.below RZ.out hb)
        replace BB := Lib.hid (below_next BB.out (by have := BB.out.size; omega) hb)
        clear hb
        obtain ⟨wo, rfl⟩ : ∃ x : World, x = wn := ⟨_, rfl⟩
        obtain ⟨x0, x1, x2⟩ := cells3 BX.out
        have hlx := BX.out.lt
        obtain ⟨y0, y1, y2⟩ := cells3 BY.out
        have hly := BY.out.lt
        obtain ⟨z0, z1, z2⟩ := cells3 BZ.out
        have hlz := BZ.out.lt
        go_wp2_with fail
        go_ret
        exact ⟨rfl, BB.out⟩

/-! ### The row's step. -/
namespace posetOrders
theorem own : ownKnob Try.prog.godebug = none := by kernel_rfl
theorem laidOut : laidOutB Try.prog = true := by kernel_rfl
set_option linter.unusedVariables false in
set_option maxRecDepth 100000 in
theorem lifted (os : Os) (started : os.Started) (H : Type) (enc : TypeId × Value → H) :
    ReturnsInHanded {} Try.checked os 4 .any (Rows.posetOrdersSpec.pre6 enc Try.prog Try.f4 Rows.posetOrdersRow.domain false) (Rows.posetOrdersSpec.post enc Try.prog Try.f4 false true false false) := by
  refine returnsInHanded_of_change_sized (C := Try.checked) own started (by kernel_rfl) Try.func4
    (ChangeSpec.witness6 (enc := enc) (C := Try.checked) false ⟨#[], #[.agg #[.int .i64 0, .int .i64 0, .slice none 0 0], .agg #[.int .i64 0, .int .i64 0, .slice none 0 0], .agg #[.int .i64 0, .int .i64 0, .slice none 0 0]], []⟩ 8 (by kernel_rfl) (by kernel_rfl) (by kernel_rfl) (by kernel_rfl)) ?_
  intro W base args ds gs before hval0 hW hcnd hsz0 _
  have hval : ∀ (j : Nat) t v, Try.f4.params[j]? = some t → args[j]? = some v → Value.okWide Try.prog W .any base t v := hval0
  have hsz : (DataW.weightsEach Try.prog (Try.f4.params.toList ++ Rows.posetOrdersSpec.plain.varTypes Try.prog) (ds ++ gs)).all (· ≤ reachBytes) = true := hsz0
  have hW' := hW
  obtain ⟨p, q, hA0, hV, rfl, hfz, hnd⟩ := hW
  have hA : DataW.TrodAll enc Try.prog W 0 (fun _ => true) true Try.f4.params.toList args.toList ds p := hA0
  rw [Try.params4] at hA hval hsz
  obtain ⟨v0, vs0, d0, ds0, p0, q0, hargs, rfl, rfl, h0, r0⟩ := trodAll_cons hA
  obtain ⟨v1, vs1, d1, ds1, p1, q1, rfl, rfl, rfl, h1, r1⟩ := trodAll_cons r0
  obtain ⟨v2, vs2, d2, ds2, p2, q2, rfl, rfl, rfl, h2, r2⟩ := trodAll_cons r1
  obtain ⟨rfl, rfl, rfl⟩ := trodAll_nil r2
  obtain rfl : args = #[v0, v1, v2] := by cases args; simp_all
  obtain ⟨rfl, rfl⟩ := trodVars_none hV
  obtain ⟨x0, rfl, fx0, bx0⟩ := open_entry (hval 0 28 v0 rfl rfl) h0 (fun n hn => by simpa using List.all_eq_true.1 hsz n (DataW.weights_mem_each (j := 0) rfl rfl n hn))
  have k0 := h0
  have lt0 : ∀ x ∈ p0, x.block < W.heap.size := by obtain ⟨m, hm⟩ := k0; exact DataW.trod_lt m _ _ _ hm
  obtain ⟨x1, rfl, fx1, bx1⟩ := open_entry (hval 1 28 v1 rfl rfl) h1 (fun n hn => by simpa using List.all_eq_true.1 hsz n (DataW.weights_mem_each (j := 1) rfl rfl n hn))
  have k1 := h1
  have lt1 : ∀ x ∈ p1, x.block < W.heap.size := by obtain ⟨m, hm⟩ := k1; exact DataW.trod_lt m _ _ _ hm
  obtain ⟨x2, rfl, fx2, bx2⟩ := open_entry (hval 2 28 v2 rfl rfl) h2 (fun n hn => by simpa using List.all_eq_true.1 hsz n (DataW.weights_mem_each (j := 2) rfl rfl n hn))
  have k2 := h2
  have lt2 : ∀ x ∈ p2, x.block < W.heap.size := by obtain ⟨m, hm⟩ := k2; exact DataW.trod_lt m _ _ _ hm
  clear hA0 hval0
  refine (walk_PosetOrders W x0 fx0 bx0 x1 fx1 bx1 x2 fx2 bx2).mono fun e W' ⟨he, bel⟩ => ?_
  subst he
  exact ⟨_, rfl, _, _, _, [], _, [], hW', trodAll_mk1 (shut_bool Try.underlying4 _), (trodAll_cons_mk (Below.trod laidOut (by kernel_rfl) (of_decide_eq_true (by kernel_rfl)) k0 bel lt0) (trodAll_cons_mk (Below.trod laidOut (by kernel_rfl) (of_decide_eq_true (by kernel_rfl)) k1 bel lt1) (trodAll_cons_mk (Below.trod laidOut (by kernel_rfl) (of_decide_eq_true (by kernel_rfl)) k2 bel lt2) trodAll_mk0))), rfl, bel.frame _, fun h => by cases h⟩
theorem over : Rows.posetOrdersRow.holds Try.pinned (OpenSpec.ofChange Rows.posetOrdersSpec) :=
  OpenClaim.holds_of_wide 4 Try.f4 rfl rfl rfl rfl rfl rfl rfl ⟨rfl, rfl, rfl, rfl, rfl⟩ rfl rfl rfl rfl rfl (by kernel_rfl) Try.func4 (by kernel_rfl)
    (of_decide_eq_true (by kernel_rfl)) (by unfold Func.isWrapper; first | (rw [if_pos (by decide +kernel)]; kernel_rfl) | (rw [if_neg (by decide +kernel)]; exact ⟨rfl, rfl⟩))
    (fun os started H enc _ => lifted os started H enc)
end posetOrders
/-- THE STATEMENT. -/
theorem posetOrders_holds : Rows.PosetOrdersSaid := posetOrders.over
#print axioms posetOrders_holds
end Go.Proofs.Ytckabmlilbkmbaa
