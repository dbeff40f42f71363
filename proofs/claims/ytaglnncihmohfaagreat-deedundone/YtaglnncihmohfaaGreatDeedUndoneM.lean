/-
 What is taken away again leaves all as it was, but for the epoch: for every state and every deed the call of the law answers true, and all arguments read behind it as they read before. No condition.
-/
import Derived.Test.YtaglnncihmohfaaGreatX8
set_option maxRecDepth 100000
set_option maxHeartbeats 8000000
namespace Go.Proofs.YtaglnncihmohfaaGreat
open Go.RowKit Go.ChangeShapes Go.WideShapes Go.ChangeAt Go.Sort Spans Tb Dm
theorem odd_kind {d o : Dd} (h : DNorm d o 0) (hk : ¬ d.k.tmod 2 = 0) : d.k = 1 ∨ d.k = 3 ∨ d.k = 5 := by
 obtain ⟨h1, h2, _⟩ := h.good
 have f1 := h1.1.1
 have f2 := h1.1.2.1
 rw [h2] at f1 f2
 have : d.k.tmod 2 = d.k % 2 := Int.tmod_eq_emod_of_nonneg (by omega)
 omega
theorem does_norm {s t : Bk} {d : Dd} (h : Does s d t 0) : ∃ o, DNorm d o 0 := by
 obtain ⟨o, er, hno, ⟨h1, _, h2⟩ | ⟨_, _, _, h2⟩ | ⟨_, _, h1, _, h2⟩ | ⟨rfl, _, hc, _, _⟩⟩ := h
 ·exact absurd h2.symm h1
 ·exact absurd h2 (by decide)
 ·exact absurd h2.symm h1
 ·exact ⟨o, hno⟩
theorem walk_DeedUndone (w : World) (s : Sx) (lns : s.Len) (rss : s.Rd w) (_ : -9223372036854775808 <= s.ep /\ s.ep <= 9223372036854775807) (_ : s.c <= maxLen /\ s.c1 <= maxLen /\ s.c2 <= maxLen) (szs : s.n <= 5900000000000 /\ s.n1 <= 3600000000000 /\ s.n2 <= 3600000000000) (lbs : LBx s.ls) (abs : EBx s.av) (ubs : EBx s.su) (x : Dx) (fx : FltD w x) (bx : DBx [x]) :
  Calls Tryz.prog 9 #[s.v, dxV x] w fun e w' => e = .returned (.bool true) /\ Below w.heap.size w w' := by
 obtain ⟨xk, xi, xr, xa, xA, xn, xc, xf⟩ := x
 obtain ⟨hx1, hx2, hx3⟩ := fx
 dsimp only at hx1 hx2 hx3
 have LN := Lib.hid lns
 have LB := Lib.hid lbs
 have AB := Lib.hid abs
 have UB := Lib.hid ubs
 have SZ := Lib.hid szs
 have HBX := Lib.hid bx
 have HXN := Lib.hid hx1
 have RX := Lib.hid hx3
 have hb0 := (gr2 w (.cells #[.int .i64 s.ep, .slice s.A s.n s.c, .slice s.A1 s.n1 s.c1, .slice s.A2 s.n2 s.c2] 42) (.cells #[.int .i64 xk, .int .i64 xi, .int .i64 xr, .string ⟨xa.toArray⟩, .slice xA xn xc] 44)).below
 have BXs := Lib.hid ((Blk.new w 42 #[.int .i64 s.ep, .slice s.A s.n s.c, .slice s.A1 s.n1 s.c1, .slice s.A2 s.n2 s.c2]).alloc (.cells #[.int .i64 xk, .int .i64 xi, .int .i64 xr, .string ⟨xa.toArray⟩, .slice xA xn xc] 44))
 have hX := Blk.new (w.alloc (.cells #[.int .i64 s.ep, .slice s.A s.n s.c, .slice s.A1 s.n1 s.c1, .slice s.A2 s.n2 s.c2] 42)) 44 #[.int .i64 xk, .int .i64 xi, .int .i64 xr, .string ⟨xa.toArray⟩, .slice xA xn xc]
 rw [show (w.alloc (.cells #[.int .i64 s.ep, .slice s.A s.n s.c, .slice s.A1 s.n1 s.c1, .slice s.A2 s.n2 s.c2] 42)).heap.size = w.heap.size + 1 by simp] at hX
 have BXd := Lib.hid hX
 have R0 := Lib.hid rss
 have BB := Lib.hid hb0
 obtain ⟨qs, hqs⟩ : ∃ q, statesB s = q := ⟨_, rfl⟩
 have Qs := Lib.hid hqs
 obtain ⟨qf, hqf⟩ : ∃ q, fewD [⟨xk, xi, xr, xa, xA, xn, xc, xf⟩] = q := ⟨_, rfl⟩
 have Qf := Lib.hid hqf
 clear hb0 hX hqs hqf lns rss szs lbs abs ubs hx1 hx3 bx
 go_enter Tryz.func9, Tryz.ntmps9
 go_wp2_with fail
 generalize ((w.alloc (.cells #[.int .i64 s.ep, .slice s.A s.n s.c, .slice s.A1 s.n1 s.c1, .slice s.A2 s.n2 s.c2] 42)).alloc (.cells #[.int .i64 xk, .int .i64 xi, .int .i64 xr, .string ⟨xa.toArray⟩, .slice xA xn xc] 44)) = w0 at *
 refine (dsmall_at w0).mono ?_
 rintro e w1 ⟨rfl, hb⟩
 replace BXs := Lib.hid (Blk.below BXs.out hb BXs.out.lt)
 replace BB := Lib.hid (below_next BB.out (by have := BB.out.size; omega) hb)
 replace BXd := Lib.hid (Blk.below BXd.out hb BXd.out.lt)
 clear hb
 obtain ⟨x0, x1, x2, x3, _⟩ := blk4 BXs.out
 have hlx := BXs.out.lt
 obtain ⟨d0, d1, d2, d3, d4, _⟩ := blk5 BXd.out
 have hld := BXd.out.lt
 go_wp2_with fail
 refine (states_at s LN.out SZ.out LB.out AB.out UB.out _ (R0.out.below BB.out) qs Qs.out).mono ?_
 rintro e w2 ⟨rfl, hb⟩
 replace BXs := Lib.hid (Blk.below BXs.out hb BXs.out.lt)
 replace BB := Lib.hid (below_next BB.out (by have := BB.out.size; omega) hb)
 replace BXd := Lib.hid (Blk.below BXd.out hb BXd.out.lt)
 clear hb
 clear x0 x1 x2 x3 hlx d0 d1 d2 d3 d4 hld
 have hrx := rdk_one layD w2 ⟨xk, xi, xr, xa, xA, xn, xc, xf⟩ 44 #[.int .i64 xk, .int .i64 xi, .int .i64 xr, .string ⟨xa.toArray⟩, .slice xA xn xc] rfl
 have hb := (gr1 w2 (.cells #[.int .i64 xk, .int .i64 xi, .int .i64 xr, .string ⟨xa.toArray⟩, .slice xA xn xc] 44)).below
 obtain ⟨x0, x1, x2, x3, _⟩ := blk4 BXs.out
 have hlx := BXs.out.lt
 obtain ⟨d0, d1, d2, d3, d4, _⟩ := blk5 BXd.out
 have hld := BXd.out.lt
 replace BXs := Lib.hid (Blk.below BXs.out hb BXs.out.lt)
 replace BB := Lib.hid (below_next BB.out (by have := BB.out.size; omega) hb)
 replace BXd := Lib.hid (Blk.below BXd.out hb BXd.out.lt)
 clear hb
 obtain ⟨z0, z1, z2, z3, z4, _⟩ := blk5 BXd.out
 have HRD : Hid (RdDx (w2.alloc (.cells #[.int .i64 xk, .int .i64 xi, .int .i64 xr, .string ⟨xa.toArray⟩, .slice xA xn xc] 44)) (some ⟨w2.heap.size, 0, none⟩) [⟨xk, xi, xr, xa, xA, xn, xc, xf⟩]) := ⟨hrx, fun y hy => by simp at hy; subst hy; exact ⟨HXN.out, hx2, RdK.below RX.out BB.out⟩⟩
 clear hrx
 go_wp2_with fail
 clear x0 x1 x2 x3 hlx d0 d1 d2 d3 d4 hld
 clear z0 z1 z2 z3 z4
 generalize w2.alloc (.cells #[.int .i64 xk, .int .i64 xi, .int .i64 xr, .string ⟨xa.toArray⟩, .slice xA xn xc] 44) = w3 at *
 refine (dfew_at (some ⟨w2.heap.size, 0, none⟩) [⟨xk, xi, xr, xa, xA, xn, xc, xf⟩] 1 1 rfl (by decide) HBX.out w3 HRD.out qf Qf.out).mono ?_
 rintro e w4 ⟨rfl, hb⟩
 replace BXs := Lib.hid (Blk.below BXs.out hb BXs.out.lt)
 replace BB := Lib.hid (below_next BB.out (by have := BB.out.size; omega) hb)
 replace BXd := Lib.hid (Blk.below BXd.out hb BXd.out.lt)
 clear hb
 clear HRD
 obtain ⟨x0, x1, x2, x3, _⟩ := blk4 BXs.out
 have hlx := BXs.out.lt
 obtain ⟨d0, d1, d2, d3, d4, _⟩ := blk5 BXd.out
 have hld := BXd.out.lt
 cases qs with
 | false =>
  go_wp2_with fail
  go_ret
  exact ⟨rfl, BB.out⟩
 | true =>
  cases qf with
  | false =>
   go_wp2_with fail
   go_ret
   exact ⟨rfl, BB.out⟩
  | true =>
   have OK := Lib.hid (ok_of Qs.out LN.out AB.out UB.out)
   obtain ⟨qr, hqr⟩ : ∃ q : Bool, q = true ↔ Tb.Right s.bk := by
    by_cases h : Tb.Right s.bk
    ·exact ⟨true, by simp [h]⟩
    ·exact ⟨false, by simp [h]⟩
   have QR := Lib.hid hqr
   clear hqr
   go_wp2_with fail
   refine (right_st s LN.out OK.out.few OK.out.pa OK.out.pu _ (R0.out.below BB.out) qr QR.out).mono ?_
   rintro e w5 ⟨rfl, hb⟩
   replace BXs := Lib.hid (Blk.below BXs.out hb BXs.out.lt)
   replace BB := Lib.hid (below_next BB.out (by have := BB.out.size; omega) hb)
   replace BXd := Lib.hid (Blk.below BXd.out hb BXd.out.lt)
   clear hb
   clear x0 x1 x2 x3 hlx d0 d1 d2 d3 d4 hld
   obtain ⟨x0, x1, x2, x3, _⟩ := blk4 BXs.out
   have hlx := BXs.out.lt
   obtain ⟨d0, d1, d2, d3, d4, _⟩ := blk5 BXd.out
   have hld := BXd.out.lt
   cases qr with
   | false =>
    go_wp2_with fail
    go_ret
    exact ⟨rfl, BB.out⟩
   | true =>
    have HK := Lib.hid (sok_of LN.out (R0.out.below BB.out) (QR.out.1 rfl))
    have hfd := fewD_of Qf.out
    have HPX : Hid (PBd xf) := fun p hp => ⟨((hfd.1 _ (List.mem_singleton.2 rfl)).2 p hp).1, ((hfd.1 _ (List.mem_singleton.2 rfl)).2 p hp).2, ((HBX.out _ (List.mem_singleton.2 rfl)).2.2 p hp).2.2⟩
    have hxn : xn <= 400 := hfd.2.2 _ (List.mem_singleton.2 rfl)
    replace RX := Lib.hid (RdK.below RX.out BB.out)
    clear hfd LN LB AB UB SZ R0 Qs Qf OK QR HBX
    by_cases he : 1099511627773 < s.ep
    ·have q1 : decide ((1099511627773 : Int) < s.ep) = true := decide_eq_true he
     go_wp2_with fail
     go_ret
     exact ⟨rfl, BB.out⟩
    have q1 : decide ((1099511627773 : Int) < s.ep) = false := decide_eq_false he
    obtain ⟨m2, hm2⟩ : ∃ m, xk.tmod 2 = m := ⟨_, rfl⟩
    have HM := Lib.hid hm2
    have hmb : -1 <= m2 /\ m2 <= 1 := by rw [<- hm2]; have h1 := Int.tmod_lt_of_pos xk (show (0 : Int) < 2 by decide); have h2 := Int.lt_tmod_of_pos xk (show (0 : Int) < 2 by decide); omega
    have hm3 : IntKind.i64.wrap m2 = m2 := by rw [IntKind.wrap_i64]; omega
    by_cases hm : m2 = 0
    ·subst hm
     go_wp2_with fail
     go_ret
     exact ⟨rfl, BB.out⟩
    have v2 : (m2 == 0) = false := beq_eq_false_iff_ne.2 hm
    go_wp2_with fail
    clear x0 x1 x2 x3 hlx d0 d1 d2 d3 d4 hld
    clear q1 hm2 hm3 v2 hmb
    obtain ⟨r, hr⟩ : ∃ r, findL s.ls xi = r := ⟨_, rfl⟩
    have HR := Lib.hid hr
    clear hr
    refine (link_at s xi HK.out.len.n HK.out.few.n w5 HK.out.rd.ls r HR.out).mono ?_
    rintro e w6 ⟨rfl, hb⟩
    replace BXs := Lib.hid (Blk.below BXs.out hb BXs.out.lt)
    replace BB := Lib.hid (below_next BB.out (by have := BB.out.size; omega) hb)
    replace BXd := Lib.hid (Blk.below BXd.out hb BXd.out.lt)
    replace HK := Lib.hid (HK.out.below hb)
    replace RX := Lib.hid (RdK.below RX.out hb)
    clear hb
    have hb := (gr1 w6 (.cells #[.int .i64 (r.getD ⟨0, []⟩).id, .string ⟨(r.getD ⟨0, []⟩).ad.toArray⟩] 59)).below
    obtain ⟨x0, x1, x2, x3, _⟩ := blk4 BXs.out
    have hlx := BXs.out.lt
    obtain ⟨d0, d1, d2, d3, d4, _⟩ := blk5 BXd.out
    have hld := BXd.out.lt
    replace BXs := Lib.hid (Blk.below BXs.out hb BXs.out.lt)
    replace BB := Lib.hid (below_next BB.out (by have := BB.out.size; omega) hb)
    replace BXd := Lib.hid (Blk.below BXd.out hb BXd.out.lt)
    replace HK := Lib.hid (HK.out.below hb)
    replace RX := Lib.hid (RdK.below RX.out hb)
    clear hb
    obtain ⟨X0, X1, X2, X3, _⟩ := blk4 BXs.out
    obtain ⟨z0, z1, z2, z3, z4, _⟩ := blk5 BXd.out
    go_wp2_with fail
    clear x0 x1 x2 x3 hlx d0 d1 d2 d3 d4 hld
    clear X0 X1 X2 X3 z0 z1 z2 z3 z4
    generalize w6.alloc (.cells #[.int .i64 (r.getD ⟨0, []⟩).id, .string ⟨(r.getD ⟨0, []⟩).ad.toArray⟩] 59) = w7 at *
    refine (ddo_at s HK.out.len HK.out.few xk xi xr xa xf xA xn xc HXN.out (by omega) HPX.out w7 HK.out.right HK.out.rd RX.out).mono ?_
    rintro e w8 ⟨t, er, b1, rfl, hdo, hbt, hfr, hb⟩
    have HDO := Lib.hid hdo
    have HBT := Lib.hid hbt
    have HFR := Lib.hid hfr
    clear hdo hbt hfr
    replace BXs := Lib.hid (Blk.below BXs.out hb BXs.out.lt)
    replace BB := Lib.hid (below_next BB.out (by have := BB.out.size; omega) hb)
    replace BXd := Lib.hid (Blk.below BXd.out hb BXd.out.lt)
    replace HK := Lib.hid (HK.out.below hb)
    replace RX := Lib.hid (RdK.below RX.out hb)
    clear hb
    have hb := (gr1 w8 (.cells #[.int .i64 t.ep, .slice t.A t.n t.c, .slice t.A1 t.n1 t.c1, .slice t.A2 t.n2 t.c2] 42)).below
    have BXt := Lib.hid (Blk.new w8 42 #[.int .i64 t.ep, .slice t.A t.n t.c, .slice t.A1 t.n1 t.c1, .slice t.A2 t.n2 t.c2])
    replace BXs := Lib.hid (Blk.below BXs.out hb BXs.out.lt)
    replace BB := Lib.hid (below_next BB.out (by have := BB.out.size; omega) hb)
    replace BXd := Lib.hid (Blk.below BXd.out hb BXd.out.lt)
    replace HK := Lib.hid (HK.out.below hb)
    replace RX := Lib.hid (RdK.below RX.out hb)
    replace HFR := Lib.hid (HFR.out.below hb)
    clear hb
    obtain ⟨is, his⟩ : ∃ q, r.isSome = q := ⟨_, rfl⟩
    have HIS := Lib.hid his
    rw [his]
    clear his
    obtain ⟨x0, x1, x2, x3, _⟩ := blk4 BXs.out
    have hlx := BXs.out.lt
    obtain ⟨d0, d1, d2, d3, d4, _⟩ := blk5 BXd.out
    have hld := BXd.out.lt
    obtain ⟨t0, t1, t2, t3, _⟩ := blk4 BXt.out
    have hlt := BXt.out.lt
    by_cases h0 : er = 0
    ·subst h0
     have hbt : t.bk = b1 := HBT.out
     have hdo := HDO.out
     rw [<- hbt] at hdo
     obtain ⟨o2, hno⟩ := does_norm hdo
     have hkk := odd_kind hno (by rw [HM.out]; exact hm)
     dsimp only at hkk
     have HD := Lib.hid hdo
     have HKK := Lib.hid hkk
     clear hbt hdo hno hkk HDO HBT HM hm
     by_cases hl : xk = 1 /\ is = true
     ·obtain ⟨rfl, rfl⟩ := hl
      go_wp2_with fail
      go_ret
      exact ⟨rfl, BB.out⟩
     have HNL : Hid (xk = 1 -> ¬ Linked s.ls xi) := fun hk => by
      rw [<- findL_none, HR.out]
      have : r.isSome = false := by rw [HIS.out]; cases is with
       | false => rfl
       | true => exact absurd ⟨hk, rfl⟩ hl
      simpa using this
     have hg : ((xk == 1) && is) = false := by
      cases is with
      | false => simp
      | true => simp; exact fun h => hl ⟨h, rfl⟩
     have hr1 := (HD.out.right HK.out.right).1
     have HT := Lib.hid (sok_of HFR.out.len HFR.out.own.rd hr1)
     have he0 : s.ep + 1 < 1099511627776 := by omega
     obtain ⟨u, hu1, hu2, hu3, hu4, hu5⟩ := undone HK.out.right HD.out HKK.out HNL.out he0
     have HU := Lib.hid hu1
     have HU2 : Hid (u.ls = s.bk.ls /\ u.av = s.bk.av /\ u.su = s.bk.su /\ t.bk.ep = s.bk.ep + 1) := ⟨hu2, hu3, hu4, hu5⟩
     have hk7 : -9 <= xk /\ xk <= 9 := by have := HKK.out; omega
     have hw0 : IntKind.i64.wrap (xk + 1) = xk + 1 := by rw [IntKind.wrap_i64]; omega
     clear hr1 hu1 hu2 hu3 hu4 hu5 hk7 he0 hl HFR
     have hlim : xk = 1 -> is = false := fun h => by
      cases is with
      | false => rfl
      | true => rw [h] at hg; simp at hg
     clear hg
     go_upto_region 8 with fail
     clear x0 x1 x2 x3 hlx d0 d1 d2 d3 d4 hld
     clear t0 t1 t2 t3 hlt
     generalize w8.alloc (.cells #[.int .i64 t.ep, .slice t.A t.n t.c, .slice t.A1 t.n1 t.c1, .slice t.A2 t.n2 t.c2] 42) = w9 at *
     generalize w8.heap.size = p10 at *
     obtain ⟨x0, x1, x2, x3, _⟩ := blk4 BXs.out
     have hlx := BXs.out.lt
     obtain ⟨d0, d1, d2, d3, d4, _⟩ := blk5 BXd.out
     have hld := BXd.out.lt
     go_cut [65] from 14 (fun s65 wx => s65 = .bool false /\ w9 = wx)
     case first =>
      by_cases hk1 : xk = 1
      ·have v5 := hlim hk1
       subst hk1
       subst v5
       go_wp2_with fail
       go_meet
       exact ⟨rfl, rfl⟩
      ·have v5 : (xk == 1) = false := beq_eq_false_iff_ne.2 hk1
       go_wp2_with fail
       go_meet
       exact ⟨rfl, rfl⟩
     case rest =>
      obtain ⟨rfl, rfl⟩ := hcut
      clear hlim
      obtain ⟨t0, t1, t2, t3, _⟩ := blk4 BXt.out
      have hlt := BXt.out.lt
      go_wp2_with fail
      clear x0 x1 x2 x3 hlx d0 d1 d2 d3 d4 hld
      clear t0 t1 t2 t3 hlt
      refine (ddo_at t HT.out.len HT.out.few (xk + 1) xi 0 [] [] none 0 0 rfl (by decide) pbN w9 HT.out.right HT.out.rd (.inl rfl)).mono ?_
      rintro e wa ⟨v, er2, b2, rfl, hdo, hbt, hfr, hb⟩
      obtain ⟨hbu, rfl⟩ := (show Does t.bk ⟨xk + 1, xi, 0, [], []⟩ b2 er2 from hdo).one HU.out
      subst hbu
      have HBV : Hid (v.bk = b2) := hbt
      have hru := (HU.out.right HT.out.right).1
      have HV := Lib.hid (sok_of hfr.len hfr.own.rd (by rw [HBV.out]; exact hru))
      clear hdo hbt hfr hru
      replace BXs := Lib.hid (Blk.below BXs.out hb BXs.out.lt)
      replace BB := Lib.hid (below_next BB.out (by have := BB.out.size; omega) hb)
      replace BXd := Lib.hid (Blk.below BXd.out hb BXd.out.lt)
      replace HK := Lib.hid (HK.out.below hb)
      replace RX := Lib.hid (RdK.below RX.out hb)
      replace BXt := Lib.hid (Blk.below BXt.out hb BXt.out.lt)
      replace HT := Lib.hid (HT.out.below hb)
      clear hb
      have hb1 := (gr1 wa (.cells #[.int .i64 v.ep, .slice v.A v.n v.c, .slice v.A1 v.n1 v.c1, .slice v.A2 v.n2 v.c2] 42)).below
      have hV := Blk.new wa 42 #[.int .i64 v.ep, .slice v.A v.n v.c, .slice v.A1 v.n1 v.c1, .slice v.A2 v.n2 v.c2]
      have hS := Blk.below BXs.out hb1 BXs.out.lt
      obtain ⟨x0, x1, x2, x3, _⟩ := blk4 hS
      obtain ⟨v0, v1, v2, v3, q0, q1, q2, q3⟩ := blk4 hV
      have hl1 := BXs.out.lt
      have hl2 := hV.lt
      have hl3 := hS.lt
      have hne : wa.heap.size ≠ w.heap.size := by omega
      have hne2 : w.heap.size ≠ wa.heap.size := by omega
      have hb : Below wa.heap.size wa (wa.alloc (.cells #[.int .i64 s.ep, .slice v.A v.n v.c, .slice v.A1 v.n1 v.c1, .slice v.A2 v.n2 v.c2] 42)) := (gr1 wa _).below
      have hV2 : Blk (wa.alloc (.cells #[.int .i64 s.ep, .slice v.A v.n v.c, .slice v.A1 v.n1 v.c1, .slice v.A2 v.n2 v.c2] 42)) wa.heap.size 42 #[.int .i64 s.ep, .slice v.A v.n v.c, .slice v.A1 v.n1 v.c1, .slice v.A2 v.n2 v.c2] := Blk.new _ _ _
      obtain ⟨X0, X1, X2, X3, _⟩ := blk4 (Blk.below BXs.out hb BXs.out.lt)
      obtain ⟨V0, V1, V2, V3, _⟩ := blk4 hV2
      go_wp2_with fail
      clear x0 x1 x2 x3 v0 v1 v2 v3 q0 q1 q2 q3 hl1 hl2 hl3 X0 X1 X2 X3 V0 V1 V2 V3
      clear hb1 hV hS hne hne2
      replace BXs := Lib.hid (Blk.below BXs.out hb BXs.out.lt)
      replace BB := Lib.hid (below_next BB.out (by have := BB.out.size; omega) hb)
      replace BXd := Lib.hid (Blk.below BXd.out hb BXd.out.lt)
      replace HK := Lib.hid (HK.out.below hb)
      replace RX := Lib.hid (RdK.below RX.out hb)
      replace BXt := Lib.hid (Blk.below BXt.out hb BXt.out.lt)
      replace HT := Lib.hid (HT.out.below hb)
      replace HV := Lib.hid (HV.out.below hb)
      clear hb
      generalize (wa.alloc (.cells #[.int .i64 s.ep, .slice v.A v.n v.c, .slice v.A1 v.n1 v.c1, .slice v.A2 v.n2 v.c2] 42)) = wb at *
      clear hV2
      have e1 : v.ls = s.ls := (congrArg Bk.ls HBV.out).trans HU2.out.1
      have e2 : v.av.map Ex.en = s.av.map Ex.en := (congrArg Bk.av HBV.out).trans HU2.out.2.1
      have e3 : v.su.map Ex.en = s.su.map Ex.en := (congrArg Bk.su HBV.out).trans HU2.out.2.2.1
      have HQ1 : Hid (decide (Sx.bk { v with ep := s.ep } = s.bk) = true) := by
       refine decide_eq_true ?_
       show Bk.mk s.ep v.ls (v.av.map Ex.en) (v.su.map Ex.en) = Bk.mk s.ep s.ls (s.av.map Ex.en) (s.su.map Ex.en)
       rw [e1, e2, e3]
      have HQ2 : Hid (decide (t.bk = s.bk) = false) := decide_eq_false fun h => by
       have h1 := HU2.out.2.2.2
       have h2 : t.ep = s.ep := congrArg Bk.ep h
       have h3 : t.ep = s.ep + 1 := h1
       omega
      clear e1 e2 e3 HBV HU2 HU HD
      refine (same_st { v with ep := s.ep } s ⟨HV.out.len.n, HV.out.len.c, HV.out.len.n1, HV.out.len.c1, HV.out.len.n2, HV.out.len.c2⟩ HK.out.len ⟨HV.out.few.n, HV.out.few.n1, HV.out.few.n2, HV.out.few.av, HV.out.few.su⟩ HK.out.few wb ⟨HV.out.rd.ls, HV.out.rd.av, HV.out.rd.su⟩ HK.out.rd true HQ1.out).mono ?_
      rintro e wc ⟨rfl, hb⟩
      replace BXs := Lib.hid (Blk.below BXs.out hb BXs.out.lt)
      replace BB := Lib.hid (below_next BB.out (by have := BB.out.size; omega) hb)
      replace BXd := Lib.hid (Blk.below BXd.out hb BXd.out.lt)
      replace HK := Lib.hid (HK.out.below hb)
      replace RX := Lib.hid (RdK.below RX.out hb)
      replace BXt := Lib.hid (Blk.below BXt.out hb BXt.out.lt)
      replace HT := Lib.hid (HT.out.below hb)
      replace HV := Lib.hid (HV.out.below hb)
      clear hb
      obtain ⟨x0, x1, x2, x3, _⟩ := blk4 BXs.out
      have hlx := BXs.out.lt
      obtain ⟨t0, t1, t2, t3, _⟩ := blk4 BXt.out
      have hlt := BXt.out.lt
      go_wp2_with fail
      clear x0 x1 x2 x3 hlx t0 t1 t2 t3 hlt
      refine (same_st t s HT.out.len HK.out.len HT.out.few HK.out.few wc HT.out.rd HK.out.rd false HQ2.out).mono ?_
      rintro e wd ⟨rfl, hb⟩
      replace BXs := Lib.hid (Blk.below BXs.out hb BXs.out.lt)
      replace BB := Lib.hid (below_next BB.out (by have := BB.out.size; omega) hb)
      replace BXd := Lib.hid (Blk.below BXd.out hb BXd.out.lt)
      replace HK := Lib.hid (HK.out.below hb)
      replace RX := Lib.hid (RdK.below RX.out hb)
      replace BXt := Lib.hid (Blk.below BXt.out hb BXt.out.lt)
      replace HT := Lib.hid (HT.out.below hb)
      replace HV := Lib.hid (HV.out.below hb)
      clear hb
      go_wp2_with fail
      go_ret
      exact ⟨rfl, BB.out⟩
    ·have v0 : (er != 0) = true := by simpa using h0
     go_wp2_with fail
     go_ret
     exact ⟨rfl, BB.out⟩
/-! ### The row's step. -/
namespace deedUndone
theorem own : ownKnob Tryz.prog.godebug = none := by kernel_rfl
theorem laidOut : laidOutB Tryz.prog = true := by kernel_rfl
set_option linter.unusedVariables false in
theorem lifted (os : Os) (started : os.Started) (H : Type) (enc : TypeId × Value -> H) :
  ReturnsInHanded {} Tryz.checked os 9 .any (Rows.deedUndoneSpec.pre6 enc Tryz.prog Tryz.f9 Rows.deedUndoneRow.domain false) (Rows.deedUndoneSpec.post enc Tryz.prog Tryz.f9 false true false false) := by
 refine returnsInHanded_of_change_sized (C := Tryz.checked) own started (by kernel_rfl) Tryz.func9
  (ChangeSpec.witness6 (enc := enc) (C := Tryz.checked) false ⟨#[], #[.agg #[.int .i64 0, .slice none 0 0, .slice none 0 0, .slice none 0 0], .agg #[.int .i64 0, .int .i64 0, .int .i64 0, .string ⟨#[]⟩, .slice none 0 0]], []⟩ 8 (by kernel_rfl) (by kernel_rfl) (by kernel_rfl) (by kernel_rfl)) ?_
 intro W base args ds gs before hval0 hW hcnd hsz0 _
 have hval : ∀ (j : Nat) t v, Tryz.f9.params[j]? = some t -> args[j]? = some v -> Value.okWide Tryz.prog W .any base t v := hval0
 have hsz : (DataW.weightsEach Tryz.prog (Tryz.f9.params.toList ++ Rows.deedUndoneSpec.plain.varTypes Tryz.prog) (ds ++ gs)).all (· <= reachBytes) = true := hsz0
 have hW' := hW
 obtain ⟨p, q, hA0, hV, rfl, hfz, hnd⟩ := hW
 have hA : DataW.TrodAll enc Tryz.prog W 0 (fun _ => true) true Tryz.f9.params.toList args.toList ds p := hA0
 rw [Tryz.params9] at hA hval hsz
 obtain ⟨v0, vs0, d0, ds0, p0, q0, hargs, rfl, rfl, h0, r0⟩ := trodAll_cons hA
 obtain ⟨v1, vs1, d1, ds1, p1, q1, rfl, rfl, rfl, h1, r1⟩ := trodAll_cons r0
 obtain ⟨rfl, rfl, rfl⟩ := trodAll_nil r1
 obtain rfl : args = #[v0, v1] := by cases args; simp_all
 obtain ⟨rfl, rfl⟩ := trodVars_none hV
 obtain ⟨s0, rfl, ln0, rs0, we0, cp0, sz0, lb0, ab0, ub0⟩ := open_state (hval 0 42 v0 rfl rfl) h0 (fun n hn => by simpa using List.all_eq_true.1 hsz n (DataW.weights_mem_each (j := 0) rfl rfl n hn))
 have k0 := h0
 have lt0 : ∀ x ∈ p0, x.block < W.heap.size := by obtain ⟨m, hm⟩ := k0; exact DataW.trod_lt m _ _ _ hm
 obtain ⟨x1, rfl, fx1, bx1⟩ := open_deed (hval 1 44 v1 rfl rfl) h1 (fun n hn => by simpa using List.all_eq_true.1 hsz n (DataW.weights_mem_each (j := 1) rfl rfl n hn))
 have k1 := h1
 have lt1 : ∀ x ∈ p1, x.block < W.heap.size := by obtain ⟨m, hm⟩ := k1; exact DataW.trod_lt m _ _ _ hm
 clear hA0 hval0
 refine (walk_DeedUndone W s0 ln0 rs0 we0 cp0 sz0 lb0 ab0 ub0 x1 fx1 bx1).mono fun e W' ⟨he, bel⟩ => ?_
 subst he
 exact ⟨_, rfl, _, _, _, [], _, [], hW', trodAll_mk1 (shut_bool Tryz.underlying4 _), (trodAll_cons_mk (Below.trod laidOut (by kernel_rfl) (of_decide_eq_true (by kernel_rfl)) k0 bel lt0) (trodAll_cons_mk (Below.trod laidOut (by kernel_rfl) (of_decide_eq_true (by kernel_rfl)) k1 bel lt1) trodAll_mk0)), rfl, bel.frame _, fun h => by cases h⟩
theorem over : Rows.deedUndoneRow.holds Tryz.pinned (OpenSpec.ofChange Rows.deedUndoneSpec) :=
 OpenClaim.holds_of_wide 9 Tryz.f9 rfl rfl rfl rfl rfl rfl rfl ⟨rfl, rfl, rfl, rfl, rfl⟩ rfl rfl rfl rfl rfl (by kernel_rfl) Tryz.func9 (by kernel_rfl)
  (of_decide_eq_true (by kernel_rfl)) (by unfold Func.isWrapper; first | (rw [if_pos (by decide +kernel)]; kernel_rfl) | (rw [if_neg (by decide +kernel)]; exact ⟨rfl, rfl⟩))
  (fun os started H enc _ => lifted os started H enc)
end deedUndone
theorem deedUndone_holds : Rows.DeedUndoneSaid := deedUndone.over
#print axioms deedUndone_holds
end Go.Proofs.YtaglnncihmohfaaGreat
