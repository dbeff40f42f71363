/-
 A right state stays right, and is one deed older, or is as it was, whatever deeds are done: for every state and all deeds the call of the law answers true, and all arguments read behind it as they read before. No condition.
-/
import Derived.Test.YtaglnncihmohfaaGreatX8
set_option maxRecDepth 100000
set_option maxHeartbeats 8000000
namespace Go.Proofs.YtaglnncihmohfaaGreat
open Go.RowKit Go.ChangeShapes Go.WideShapes Go.ChangeAt Go.Sort Spans Tb Dm
theorem walk_DeedRight (w : World) (s : Sx) (lns : s.Len) (rss : s.Rd w) (_ : -9223372036854775808 <= s.ep /\ s.ep <= 9223372036854775807) (_ : s.c <= maxLen /\ s.c1 <= maxLen /\ s.c2 <= maxLen) (szs : s.n <= 5900000000000 /\ s.n1 <= 3600000000000 /\ s.n2 <= 3600000000000) (lbs : LBx s.ls) (abs : EBx s.av) (ubs : EBx s.su) (A : Option Addr) (es : List Dx) (len cap : Nat) (hl : es.length = len) (hc : len <= cap) (_ : cap <= maxLen) (hz : len <= 2200000000000) (rd : RdDx w A es) (hw : DBx es) :
  Calls Tryz.prog 8 #[s.v, .slice A len cap] w fun e w' => e = .returned (.bool true) /\ Below w.heap.size w w' := by
 have LN := Lib.hid lns
 have LB := Lib.hid lbs
 have AB := Lib.hid abs
 have UB := Lib.hid ubs
 have SZ := Lib.hid szs
 have HN := Lib.hid hl
 have HRD := Lib.hid rd
 have HW := Lib.hid hw
 have hb0 := (gr1 w (.cells #[.int .i64 s.ep, .slice s.A s.n s.c, .slice s.A1 s.n1 s.c1, .slice s.A2 s.n2 s.c2] 42)).below
 have BXs := Lib.hid (Blk.new w 42 #[.int .i64 s.ep, .slice s.A s.n s.c, .slice s.A1 s.n1 s.c1, .slice s.A2 s.n2 s.c2])
 have R0 := Lib.hid rss
 have BB := Lib.hid hb0
 obtain ⟨qs, hqs⟩ : ∃ q, statesB s = q := ⟨_, rfl⟩
 have Qs := Lib.hid hqs
 obtain ⟨qf, hqf⟩ : ∃ q, fewD es = q := ⟨_, rfl⟩
 have Qf := Lib.hid hqf
 clear hb0 hqs hqf lns rss szs lbs abs ubs hl rd hw
 go_enter Tryz.func8, Tryz.ntmps8
 go_wp2_with fail
 generalize w.alloc (.cells #[.int .i64 s.ep, .slice s.A s.n s.c, .slice s.A1 s.n1 s.c1, .slice s.A2 s.n2 s.c2] 42) = w0 at *
 refine (dsmall_at w0).mono ?_
 rintro e w1 ⟨rfl, hb⟩
 replace BXs := Lib.hid (Blk.below BXs.out hb BXs.out.lt)
 replace BB := Lib.hid (below_next BB.out (by have := BB.out.size; omega) hb)
 clear hb
 obtain ⟨x0, x1, x2, x3, _⟩ := blk4 BXs.out
 have hlx := BXs.out.lt
 go_wp2_with fail
 refine (states_at s LN.out SZ.out LB.out AB.out UB.out _ (R0.out.below BB.out) qs Qs.out).mono ?_
 rintro e w2 ⟨rfl, hb⟩
 replace BXs := Lib.hid (Blk.below BXs.out hb BXs.out.lt)
 replace BB := Lib.hid (below_next BB.out (by have := BB.out.size; omega) hb)
 clear hb
 clear x0 x1 x2 x3 hlx
 go_wp2_with fail
 refine (dfew_at A es len cap HN.out (by omega) HW.out _ (HRD.out.below BB.out) qf Qf.out).mono ?_
 rintro e w3 ⟨rfl, hb⟩
 replace BXs := Lib.hid (Blk.below BXs.out hb BXs.out.lt)
 replace BB := Lib.hid (below_next BB.out (by have := BB.out.size; omega) hb)
 clear hb
 obtain ⟨x0, x1, x2, x3, _⟩ := blk4 BXs.out
 have hlx := BXs.out.lt
 cases qs with
 | false =>
  go_wp2_with fail
  go_ret
  exact ⟨rfl, BB.out⟩
 | true =>
  cases qf with
  | false =>
   go_wp2_with fail
   go_ret
   exact ⟨rfl, BB.out⟩
  | true =>
   have OK := Lib.hid (ok_of Qs.out LN.out AB.out UB.out)
   obtain ⟨qr, hqr⟩ : ∃ q : Bool, q = true ↔ Tb.Right s.bk := by
    by_cases h : Tb.Right s.bk
    ·exact ⟨true, by simp [h]⟩
    ·exact ⟨false, by simp [h]⟩
   have QR := Lib.hid hqr
   clear hqr
   go_wp2_with fail
   refine (right_st s LN.out OK.out.few OK.out.pa OK.out.pu _ (R0.out.below BB.out) qr QR.out).mono ?_
   rintro e w4 ⟨rfl, hb⟩
   replace BXs := Lib.hid (Blk.below BXs.out hb BXs.out.lt)
   replace BB := Lib.hid (below_next BB.out (by have := BB.out.size; omega) hb)
   clear hb
   clear x0 x1 x2 x3 hlx
   cases qr with
   | false =>
    go_wp2_with fail
    go_ret
    exact ⟨rfl, BB.out⟩
   | true =>
    have HK := Lib.hid (sok_of LN.out (R0.out.below BB.out) (QR.out.1 rfl))
    have hfd := fewD_of Qf.out
    have HSH : Hid (ShortD es) := fun x hx => ⟨Nat.le_trans (hfd.2.2 x hx) (by decide), fun p hp => ⟨((hfd.1 x hx).2 p hp).1, ((hfd.1 x hx).2 p hp).2, ((HW.out x hx).2.2 p hp).2.2⟩⟩
    have h120 : len <= 120 := by have := hfd.2.1; rw [HN.out] at this; exact this
    clear hfd LN LB AB UB SZ R0 Qs Qf OK QR HW
    go_wp2_with fail
    go_loopg [8] len (fun gg s8 wr => ∃ (k : Nat) (u : Sx), k <= len /\ len - k <= gg /\ s8 = .int .i64 (k : Int) /\ Hid (Sok u wr) /\ Hid (Below w.heap.size w wr) /\ Hid (Blk wr w.heap.size 42 #[.int .i64 u.ep, .slice u.A u.n u.c, .slice u.A1 u.n1 u.c1, .slice u.A2 u.n2 u.c2]))
    case atStart => exact ⟨0, s, Nat.zero_le _, by omega, rfl, HK, BB, BXs⟩
    case round =>
     clear BB BXs HK
     obtain ⟨k, u, hk, hgg, rfl, HK, BB, BXs⟩ := hrel
     by_cases hlt : k < len
     ·have hk' : k < es.length := by rw [HN.out]; exact hlt
      obtain ⟨ga, off, hAe, hga, e0, e1, e2, e3, e4, hfl⟩ := HRD.out.at5 hk'
      subst hAe
      have hsx := HSH.out _ (List.getElem_mem hk')
      obtain ⟨x, hx⟩ : ∃ x, es[k] = x := ⟨_, rfl⟩
      rw [hx] at e0 e1 e2 e3 e4 hfl hsx
      clear hx
      obtain ⟨xk, xi, xr, xa, xA, xn, xc, xf⟩ := x
      obtain ⟨hf1, hf2, hf3⟩ := hfl
      obtain ⟨hx1, hx2⟩ := hsx
      dsimp only at e0 e1 e2 e3 e4 hf1 hf2 hf3 hx1 hx2
      have w5 : (k : Int) < (len : Int) := by omega
      have E0 := Lib.hid e0
      have E1 := Lib.hid e1
      have E2 := Lib.hid e2
      have E3 := Lib.hid e3
      have E4 := Lib.hid e4
      have HF1 := Lib.hid hf1
      have HF3 := Lib.hid hf3
      have HX2 := Lib.hid hx2
      clear e0 e1 e2 e3 e4 hf1 hf3 hx2
      go_wp2_with fail
      have hS0 : Blk wr.drew w.heap.size 42 #[.int .i64 u.ep, .slice u.A u.n u.c, .slice u.A1 u.n1 u.c1, .slice u.A2 u.n2 u.c2] /\ Below w.heap.size w wr.drew := ⟨BXs.out, BB.out.drew⟩
      refine wp_region_held_drew (S := fun w' => Blk w' w.heap.size 42 #[.int .i64 u.ep, .slice u.A u.n u.c, .slice u.A1 u.n1 u.c1, .slice u.A2 u.n2 u.c2] /\ Below w.heap.size w w') (by kernel_rfl) hS0 (fun _ => ?_)
      refine wq 0 38 (v := ?_) rfl rfl (by kernel_rfl) (fun _ _ _ h => h) (by rfl) ?_ hS0 ?_
      rotate_left
      ·intro w' hSw; obtain ⟨r0, r1, r2, r3, _⟩ := blk4 hSw.1; have e0 := (hSw.2.cell (p := ⟨ga, off + k * 5, none⟩) hga).trans E0.out; have e1 := (hSw.2.cell (p := ⟨ga, off + k * 5 + 1, none⟩) hga).trans E1.out; have e2 := (hSw.2.cell (p := ⟨ga, off + k * 5 + 2, none⟩) hga).trans E2.out; have e3 := (hSw.2.cell (p := ⟨ga, off + k * 5 + 3, none⟩) hga).trans E3.out; have e4 := (hSw.2.cell (p := ⟨ga, off + k * 5 + 4, none⟩) hga).trans E4.out; go_simp <;> with_reducible rfl
      simp only [Act.put, zu0, zu1, zu2]
      refine wq 1 39 (v := ?_) rfl rfl (by kernel_rfl) (fun _ _ _ h => h) (by rfl) ?_ hS0 ?_
      rotate_left
      ·intro w' hSw; obtain ⟨r0, r1, r2, r3, _⟩ := blk4 hSw.1; have e0 := (hSw.2.cell (p := ⟨ga, off + k * 5, none⟩) hga).trans E0.out; have e1 := (hSw.2.cell (p := ⟨ga, off + k * 5 + 1, none⟩) hga).trans E1.out; have e2 := (hSw.2.cell (p := ⟨ga, off + k * 5 + 2, none⟩) hga).trans E2.out; have e3 := (hSw.2.cell (p := ⟨ga, off + k * 5 + 3, none⟩) hga).trans E3.out; have e4 := (hSw.2.cell (p := ⟨ga, off + k * 5 + 4, none⟩) hga).trans E4.out; go_simp <;> with_reducible rfl
      simp only [Act.put, zu0, zu1, zu2]
      refine wq 2 40 (v := ?_) rfl rfl (by kernel_rfl) (fun _ _ _ h => h) (by rfl) ?_ hS0 ?_
      rotate_left
      ·intro w' hSw; obtain ⟨r0, r1, r2, r3, _⟩ := blk4 hSw.1; have e0 := (hSw.2.cell (p := ⟨ga, off + k * 5, none⟩) hga).trans E0.out; have e1 := (hSw.2.cell (p := ⟨ga, off + k * 5 + 1, none⟩) hga).trans E1.out; have e2 := (hSw.2.cell (p := ⟨ga, off + k * 5 + 2, none⟩) hga).trans E2.out; have e3 := (hSw.2.cell (p := ⟨ga, off + k * 5 + 3, none⟩) hga).trans E3.out; have e4 := (hSw.2.cell (p := ⟨ga, off + k * 5 + 4, none⟩) hga).trans E4.out; go_simp <;> with_reducible rfl
      simp only [Act.put, zu0, zu1, zu2]
      refine wq 3 41 (v := ?_) rfl rfl (by kernel_rfl) (fun _ _ _ h => h) (by rfl) ?_ hS0 ?_
      rotate_left
      ·intro w' hSw; obtain ⟨r0, r1, r2, r3, _⟩ := blk4 hSw.1; have e0 := (hSw.2.cell (p := ⟨ga, off + k * 5, none⟩) hga).trans E0.out; have e1 := (hSw.2.cell (p := ⟨ga, off + k * 5 + 1, none⟩) hga).trans E1.out; have e2 := (hSw.2.cell (p := ⟨ga, off + k * 5 + 2, none⟩) hga).trans E2.out; have e3 := (hSw.2.cell (p := ⟨ga, off + k * 5 + 3, none⟩) hga).trans E3.out; have e4 := (hSw.2.cell (p := ⟨ga, off + k * 5 + 4, none⟩) hga).trans E4.out; go_simp <;> with_reducible rfl
      simp only [Act.put, zu0, zu1, zu2]
      refine wq 4 42 (v := ?_) rfl rfl (by kernel_rfl) (fun _ _ _ h => h) (by rfl) ?_ hS0 ?_
      rotate_left
      ·intro w' hSw; obtain ⟨r0, r1, r2, r3, _⟩ := blk4 hSw.1; have e0 := (hSw.2.cell (p := ⟨ga, off + k * 5, none⟩) hga).trans E0.out; have e1 := (hSw.2.cell (p := ⟨ga, off + k * 5 + 1, none⟩) hga).trans E1.out; have e2 := (hSw.2.cell (p := ⟨ga, off + k * 5 + 2, none⟩) hga).trans E2.out; have e3 := (hSw.2.cell (p := ⟨ga, off + k * 5 + 3, none⟩) hga).trans E3.out; have e4 := (hSw.2.cell (p := ⟨ga, off + k * 5 + 4, none⟩) hga).trans E4.out; go_simp <;> with_reducible rfl
      simp only [Act.put, zu0, zu1, zu2]
      clear hS0
      replace HK := Lib.hid (HK.out.below (show Below wr.heap.size wr wr.drew from (Below.refl _ _).drew))
      replace BXs := Lib.hid (Blk.below BXs.out (show Below wr.heap.size wr wr.drew from (Below.refl _ _).drew) BXs.out.lt)
      replace BB := Lib.hid (BB.out.drew)
      generalize wr.drew = w6 at *
      refine wpAnyH_pr (i := 5) (j := 9) (by kernel_rfl) rfl rfl (by rfl) (by rfl) (fun Ka hKa => ?_) (fun Kb hKb => ?_)
      ·skip
       have hlw := BXs.out.lt
       go_simp
       with_reducible refine (ddo_at u HK.out.len HK.out.few xk xi xr xa xf xA xn xc HF1.out hx1 HX2.out w6 HK.out.right HK.out.rd (RdK.below HF3.out BB.out)).mono ?_
       rintro e w7 ⟨t, er, b1, rfl, hdo, hbt, hfr, hb⟩
       have HDO := Lib.hid hdo
       have HBT := Lib.hid hbt
       have HFR := Lib.hid hfr
       clear hdo hbt hfr
       replace BXs := Lib.hid (Blk.below BXs.out hb BXs.out.lt)
       replace BB := Lib.hid (below_next BB.out (by have := BB.out.size; omega) hb)
       replace HK := Lib.hid (HK.out.below hb)
       clear hb
       have hpz : w.heap.size < w6.heap.size := hlw
       go_wp2_with fail
       refine hKa.out _ _ ⟨BXs.out, BB.out⟩ ?_
       clear hKa
       refine wq 6 37 (v := ?_) rfl rfl (by kernel_rfl) (fun _ _ _ h => h) (by rfl) ?_ ⟨BXs.out, BB.out⟩ ?_
       rotate_left
       ·intro w' hSw; skip; go_simp <;> with_reducible rfl
       simp only [Act.put, zu0, zu1, zu2]
       refine wq 7 44 (v := ?_) rfl rfl (by kernel_rfl) (fun _ _ _ h => h) (by rfl) ?_ ⟨BXs.out, BB.out⟩ ?_
       rotate_left
       ·intro w' hSw; skip; go_simp <;> with_reducible rfl
       simp only [Act.put, zu0, zu1, zu2]
       refine wq 8 45 (v := ?_) rfl rfl (by kernel_rfl) (fun _ _ _ h => h) (by rfl) ?_ ⟨BXs.out, BB.out⟩ ?_
       rotate_left
       ·intro w' hSw; skip; go_simp <;> with_reducible rfl
       simp only [Act.put, zu0, zu1, zu2]
       refine wpAnyH_one (i := 9) (by kernel_rfl) rfl (by rfl) (fun K hK => ?_)
       go_simp
       have BXe := Lib.hid (Blk.new w7 42 #[.int .i64 0, .slice none 0 0, .slice none 0 0, .slice none 0 0])
       have BP := Lib.hid (gr1 w7 (.cells #[.int .i64 0, .slice none 0 0, .slice none 0 0, .slice none 0 0] 42)).below
       have hpe_BXs := BXs.out.lt
       generalize w7.alloc (.cells #[.int .i64 0, .slice none 0 0, .slice none 0 0, .slice none 0 0] 42) = w8 at *
       generalize hpe : w7.heap.size = pe at *
       refine hK.out _ _ ⟨Blk.below BXs.out BP.out hpe_BXs, below_pe BB.out hpe BP.out⟩ ?_
       clear hK
       refine wpAnyH_one (i := 10) (by kernel_rfl) rfl (by rfl) (fun K hK => ?_)
       obtain ⟨y0, y1, y2, y3, q0, q1, q2, q3⟩ := blk4 BXe.out
       have hly := BXe.out.lt
       go_simp
       replace BP : Hid (Below pe _ ((((w8.setCell ⟨pe, 0, none⟩ (.int .i64 t.ep)).setCell ⟨pe, 1, none⟩ (.slice t.A t.n t.c)).setCell ⟨pe, 2, none⟩ (.slice t.A1 t.n1 t.c1)).setCell ⟨pe, 3, none⟩ (.slice t.A2 t.n2 t.c2))) := below_put4 BP.out (Nat.le_refl pe) _ _ _ _
       replace BXe : Hid (Blk ((((w8.setCell ⟨pe, 0, none⟩ (.int .i64 t.ep)).setCell ⟨pe, 1, none⟩ (.slice t.A t.n t.c)).setCell ⟨pe, 2, none⟩ (.slice t.A1 t.n1 t.c1)).setCell ⟨pe, 3, none⟩ (.slice t.A2 t.n2 t.c2)) pe 42 #[.int .i64 t.ep, .slice t.A t.n t.c, .slice t.A1 t.n1 t.c1, .slice t.A2 t.n2 t.c2]) := Blk.put4 BXe.out _ _ _ _
       refine hK.out _ _ ⟨Blk.below BXs.out BP.out hpe_BXs, below_pe BB.out hpe BP.out⟩ ?_
       clear hK y0 y1 y2 y3 q0 q1 q2 q3 hly
       refine wq 11 10 (v := ?_) rfl rfl (by kernel_rfl) (fun _ _ _ h => h) (by rfl) ?_ ⟨Blk.below BXs.out BP.out hpe_BXs, below_pe BB.out hpe BP.out⟩ ?_
       rotate_left
       ·intro w' hSw; skip; go_simp <;> with_reducible rfl
       simp only [Act.put, zu0, zu1, zu2]
       refine wpAnyH_done (by kernel_rfl) ?_ _
       have hb : Below w7.heap.size w7 ((((w8.setCell ⟨pe, 0, none⟩ (.int .i64 t.ep)).setCell ⟨pe, 1, none⟩ (.slice t.A t.n t.c)).setCell ⟨pe, 2, none⟩ (.slice t.A1 t.n1 t.c1)).setCell ⟨pe, 3, none⟩ (.slice t.A2 t.n2 t.c2)) := by rw [hpe]; exact BP.out
       generalize ((((w8.setCell ⟨pe, 0, none⟩ (.int .i64 t.ep)).setCell ⟨pe, 1, none⟩ (.slice t.A t.n t.c)).setCell ⟨pe, 2, none⟩ (.slice t.A1 t.n1 t.c1)).setCell ⟨pe, 3, none⟩ (.slice t.A2 t.n2 t.c2)) = w9 at *
       skip
       clear BP
       replace BXs := Lib.hid (Blk.below BXs.out hb BXs.out.lt)
       replace BB := Lib.hid (below_next BB.out (by have := BB.out.size; omega) hb)
       replace HK := Lib.hid (HK.out.below hb)
       replace HFR := Lib.hid (HFR.out.below hb)
       clear hb
       replace HFR : Hid (Fresh _ (w.heap.size + 1) t) := HFR.out.less hpz
       clear hpz
       clear hlw hpe hpe_BXs
       skip
       by_cases he : er = 0
       ·subst he
        have hbt : t.bk = b1 := HBT.out
        have hdo := HDO.out
        rw [<- hbt] at hdo
        obtain ⟨hr1, _, hep⟩ := hdo.right HK.out.right
        have HTE : Hid (t.ep = u.ep + 1) := hep rfl
        obtain ⟨g1, g2⟩ := does_len hdo
        have m1 : t.n <= u.n + 1 := by have h1 := HFR.out.len.n; have h2 := HK.out.len.n; have h3 : t.ls.length <= u.ls.length + 1 := g1; omega
        have m2 : t.n2 <= u.n2 + 1 := by have h1 := HFR.out.len.n2; have h2 := HK.out.len.n2; have h3 : (t.su.map Ex.en).length <= (u.su.map Ex.en).length + 1 := g2; rw [List.length_map, List.length_map] at h3; omega
        have HT := Lib.hid (sok_of HFR.out.len HFR.out.own.rd hr1)
        have n1 := HT.out.n
        have n2 := HT.out.n2
        have n3 := HK.out.n
        have n4 := HK.out.n2
        have p0 := HK.out.right.ep0
        have p1 := HK.out.right.ep1
        have p0 : 0 <= u.ep := p0
        have p1 : u.ep <= 1099511627776 := p1
        have hw0 : IntKind.i64.wrap (u.ep + 1) = u.ep + 1 := by rw [IntKind.wrap_i64]; omega
        have hw1 : IntKind.i64.wrap ((t.n : Int) - (u.n : Int)) = (t.n : Int) - (u.n : Int) := by rw [IntKind.wrap_i64]; omega
        have hw2 : IntKind.i64.wrap ((t.n2 : Int) - (u.n2 : Int)) = (t.n2 : Int) - (u.n2 : Int) := by rw [IntKind.wrap_i64]; omega
        have d1 : decide ((1 : Int) < (t.n : Int) - (u.n : Int)) = false := decide_eq_false (by omega)
        have d2 : decide ((1 : Int) < (t.n2 : Int) - (u.n2 : Int)) = false := decide_eq_false (by omega)
        clear hep hdo hbt g1 g2 m1 m2 n1 n2 n3 n4 p0 p1 hr1 HDO HBT
        obtain ⟨y0, y1, y2, y3, _⟩ := blk4 BXe.out
        have hly := BXe.out.lt
        go_wp2_with fail
        refine (right_st t HT.out.len HT.out.few HT.out.pa HT.out.pu w9 HT.out.rd true ⟨fun _ => HT.out.right, fun _ => rfl⟩).mono ?_
        rintro e w10 ⟨rfl, hb⟩
        replace BXs := Lib.hid (Blk.below BXs.out hb BXs.out.lt)
        replace BB := Lib.hid (below_next BB.out (by have := BB.out.size; omega) hb)
        replace HK := Lib.hid (HK.out.below hb)
        replace BXe := Lib.hid (Blk.below BXe.out hb BXe.out.lt)
        replace HFR := Lib.hid (HFR.out.below hb)
        replace HT := Lib.hid (HT.out.below hb)
        clear hb
        clear y0 y1 y2 y3 hly
        obtain ⟨y0, y1, y2, y3, _⟩ := blk4 BXe.out
        have hly := BXe.out.lt
        obtain ⟨x0, x1, x2, x3, _⟩ := blk4 BXs.out
        have hlx := BXs.out.lt
        have hte := HTE.out
        obtain ⟨X0, X1, X2, X3, q0, q1, q2, q3⟩ := blk4 BXs.out
        go_wp2_with fail
        have HT2 : Hid (Sok t ((((w10.setCell ⟨w.heap.size, 0, none⟩ (.int .i64 (u.ep + 1))).setCell ⟨w.heap.size, 1, none⟩ (.slice t.A t.n t.c)).setCell ⟨w.heap.size, 2, none⟩ (.slice t.A1 t.n1 t.c1)).setCell ⟨w.heap.size, 3, none⟩ (.slice t.A2 t.n2 t.c2))) := sok_of HT.out.len (HFR.out.put (Nat.lt_succ_self _) _ _ _ _).own.rd HT.out.right
        have BB2 : Hid (Below w.heap.size w ((((w10.setCell ⟨w.heap.size, 0, none⟩ (.int .i64 (u.ep + 1))).setCell ⟨w.heap.size, 1, none⟩ (.slice t.A t.n t.c)).setCell ⟨w.heap.size, 2, none⟩ (.slice t.A1 t.n1 t.c1)).setCell ⟨w.heap.size, 3, none⟩ (.slice t.A2 t.n2 t.c2))) := below_put4 BB.out (Nat.le_refl _) _ _ _ _
        have BX2 : Hid (Blk ((((w10.setCell ⟨w.heap.size, 0, none⟩ (.int .i64 (u.ep + 1))).setCell ⟨w.heap.size, 1, none⟩ (.slice t.A t.n t.c)).setCell ⟨w.heap.size, 2, none⟩ (.slice t.A1 t.n1 t.c1)).setCell ⟨w.heap.size, 3, none⟩ (.slice t.A2 t.n2 t.c2)) w.heap.size 42 #[.int .i64 t.ep, .slice t.A t.n t.c, .slice t.A1 t.n1 t.c1, .slice t.A2 t.n2 t.c2]) := by
         show Blk _ _ _ _
         rw [hte]
         exact Blk.put4 BXs.out _ _ _ _
        go_roundg (len - (k + 1))
        case measure => omega
        case rel => exact ⟨k + 1, t, by omega, Nat.le_refl _, by go_num, HT2, BB2, BX2⟩
       ·have v0 : (er != 0) = true := by simpa using he
        have hbt : t.bk = zeroB := by rw [HBT.out, if_neg he]
        have HT := Lib.hid (sok_of HFR.out.len HFR.out.own.rd (by rw [hbt]; exact rZ0))
        have HQ : Hid (decide (t.bk = zeroS.bk) = true) := decide_eq_true hbt
        clear hbt HDO HBT
        obtain ⟨y0, y1, y2, y3, _⟩ := blk4 BXe.out
        have hly := BXe.out.lt
        go_wp2_with fail
        refine (same_st t zeroS HT.out.len ⟨rfl, Nat.le_refl _, rfl, Nat.le_refl _, rfl, Nat.le_refl _⟩ HT.out.few ⟨by decide, by decide, by decide, shZ, shZ⟩ w9 HT.out.rd ⟨.inl rfl, RdEn.nil _ _, RdEn.nil _ _⟩ true HQ.out).mono ?_
        rintro e w10 ⟨rfl, hb⟩
        replace BXs := Lib.hid (Blk.below BXs.out hb BXs.out.lt)
        replace BB := Lib.hid (below_next BB.out (by have := BB.out.size; omega) hb)
        replace HK := Lib.hid (HK.out.below hb)
        replace BXe := Lib.hid (Blk.below BXe.out hb BXe.out.lt)
        replace HFR := Lib.hid (HFR.out.below hb)
        clear hb
        clear y0 y1 y2 y3 hly
        go_wp2_with fail
        go_roundg (len - (k + 1))
        case measure => omega
        case rel => exact ⟨k + 1, u, by omega, Nat.le_refl _, by go_num, HK, BB, BXs⟩
      ·skip
       have hlw := BXs.out.lt
       go_simp
       have BXe := Lib.hid (Blk.new w6 42 #[.int .i64 0, .slice none 0 0, .slice none 0 0, .slice none 0 0])
       have BP := Lib.hid (gr1 w6 (.cells #[.int .i64 0, .slice none 0 0, .slice none 0 0, .slice none 0 0] 42)).below
       have hpe_BXs := BXs.out.lt
       generalize w6.alloc (.cells #[.int .i64 0, .slice none 0 0, .slice none 0 0, .slice none 0 0] 42) = w7 at *
       generalize hpe : w6.heap.size = pe at *
       refine hKb.out _ _ ⟨Blk.below BXs.out BP.out hpe_BXs, below_pe BB.out hpe BP.out⟩ ?_
       clear hKb
       refine wpAnyH_one (i := 5) (by kernel_rfl) rfl (by rfl) (fun K hK => ?_)
       have hpl := BXe.out.lt
       go_simp
       with_reducible refine (ddo_at u HK.out.len HK.out.few xk xi xr xa xf xA xn xc HF1.out hx1 HX2.out w7 HK.out.right (HK.out.rd.below (by rw [hpe]; exact BP.out)) (RdK.below HF3.out (below_pe BB.out hpe BP.out))).mono ?_
       rintro e w8 ⟨t, er, b1, rfl, hdo, hbt, hfr, hb⟩
       have HDO := Lib.hid hdo
       have HBT := Lib.hid hbt
       have HFR := Lib.hid hfr
       clear hdo hbt hfr
       replace BP := Lib.hid (below_next BP.out (by have := BP.out.size; omega) hb)
       replace BXe := Lib.hid (Blk.below BXe.out hb BXe.out.lt)
       clear hb
       go_wp2_with fail
       refine hK.out _ _ ⟨Blk.below BXs.out BP.out hpe_BXs, below_pe BB.out hpe BP.out⟩ ?_
       clear hK
       refine wq 6 37 (v := ?_) rfl rfl (by kernel_rfl) (fun _ _ _ h => h) (by rfl) ?_ ⟨Blk.below BXs.out BP.out hpe_BXs, below_pe BB.out hpe BP.out⟩ ?_
       rotate_left
       ·intro w' hSw; skip; go_simp <;> with_reducible rfl
       simp only [Act.put, zu0, zu1, zu2]
       refine wq 7 44 (v := ?_) rfl rfl (by kernel_rfl) (fun _ _ _ h => h) (by rfl) ?_ ⟨Blk.below BXs.out BP.out hpe_BXs, below_pe BB.out hpe BP.out⟩ ?_
       rotate_left
       ·intro w' hSw; skip; go_simp <;> with_reducible rfl
       simp only [Act.put, zu0, zu1, zu2]
       refine wq 8 45 (v := ?_) rfl rfl (by kernel_rfl) (fun _ _ _ h => h) (by rfl) ?_ ⟨Blk.below BXs.out BP.out hpe_BXs, below_pe BB.out hpe BP.out⟩ ?_
       rotate_left
       ·intro w' hSw; skip; go_simp <;> with_reducible rfl
       simp only [Act.put, zu0, zu1, zu2]
       refine wpAnyH_one (i := 10) (by kernel_rfl) rfl (by rfl) (fun K hK => ?_)
       obtain ⟨y0, y1, y2, y3, q0, q1, q2, q3⟩ := blk4 BXe.out
       have hly := BXe.out.lt
       go_simp
       replace BP : Hid (Below pe _ ((((w8.setCell ⟨pe, 0, none⟩ (.int .i64 t.ep)).setCell ⟨pe, 1, none⟩ (.slice t.A t.n t.c)).setCell ⟨pe, 2, none⟩ (.slice t.A1 t.n1 t.c1)).setCell ⟨pe, 3, none⟩ (.slice t.A2 t.n2 t.c2))) := below_put4 BP.out (Nat.le_refl pe) _ _ _ _
       replace BXe : Hid (Blk ((((w8.setCell ⟨pe, 0, none⟩ (.int .i64 t.ep)).setCell ⟨pe, 1, none⟩ (.slice t.A t.n t.c)).setCell ⟨pe, 2, none⟩ (.slice t.A1 t.n1 t.c1)).setCell ⟨pe, 3, none⟩ (.slice t.A2 t.n2 t.c2)) pe 42 #[.int .i64 t.ep, .slice t.A t.n t.c, .slice t.A1 t.n1 t.c1, .slice t.A2 t.n2 t.c2]) := Blk.put4 BXe.out _ _ _ _
       have HFR : Hid (Fresh ((((w8.setCell ⟨pe, 0, none⟩ (.int .i64 t.ep)).setCell ⟨pe, 1, none⟩ (.slice t.A t.n t.c)).setCell ⟨pe, 2, none⟩ (.slice t.A1 t.n1 t.c1)).setCell ⟨pe, 3, none⟩ (.slice t.A2 t.n2 t.c2)) (w.heap.size + 1) t) := (HFR.out.put hpl _ _ _ _).less (by omega)
       refine hK.out _ _ ⟨Blk.below BXs.out BP.out hpe_BXs, below_pe BB.out hpe BP.out⟩ ?_
       clear hK y0 y1 y2 y3 q0 q1 q2 q3 hly
       refine wq 11 10 (v := ?_) rfl rfl (by kernel_rfl) (fun _ _ _ h => h) (by rfl) ?_ ⟨Blk.below BXs.out BP.out hpe_BXs, below_pe BB.out hpe BP.out⟩ ?_
       rotate_left
       ·intro w' hSw; skip; go_simp <;> with_reducible rfl
       simp only [Act.put, zu0, zu1, zu2]
       refine wpAnyH_done (by kernel_rfl) ?_ _
       have hb : Below w6.heap.size w6 ((((w8.setCell ⟨pe, 0, none⟩ (.int .i64 t.ep)).setCell ⟨pe, 1, none⟩ (.slice t.A t.n t.c)).setCell ⟨pe, 2, none⟩ (.slice t.A1 t.n1 t.c1)).setCell ⟨pe, 3, none⟩ (.slice t.A2 t.n2 t.c2)) := by rw [hpe]; exact BP.out
       generalize ((((w8.setCell ⟨pe, 0, none⟩ (.int .i64 t.ep)).setCell ⟨pe, 1, none⟩ (.slice t.A t.n t.c)).setCell ⟨pe, 2, none⟩ (.slice t.A1 t.n1 t.c1)).setCell ⟨pe, 3, none⟩ (.slice t.A2 t.n2 t.c2)) = w9 at *
       clear BP
       replace BXs := Lib.hid (Blk.below BXs.out hb BXs.out.lt)
       replace BB := Lib.hid (below_next BB.out (by have := BB.out.size; omega) hb)
       replace HK := Lib.hid (HK.out.below hb)
       clear hb
       clear hpl
       clear hlw hpe hpe_BXs
       skip
       by_cases he : er = 0
       ·subst he
        have hbt : t.bk = b1 := HBT.out
        have hdo := HDO.out
        rw [<- hbt] at hdo
        obtain ⟨hr1, _, hep⟩ := hdo.right HK.out.right
        have HTE : Hid (t.ep = u.ep + 1) := hep rfl
        obtain ⟨g1, g2⟩ := does_len hdo
        have m1 : t.n <= u.n + 1 := by have h1 := HFR.out.len.n; have h2 := HK.out.len.n; have h3 : t.ls.length <= u.ls.length + 1 := g1; omega
        have m2 : t.n2 <= u.n2 + 1 := by have h1 := HFR.out.len.n2; have h2 := HK.out.len.n2; have h3 : (t.su.map Ex.en).length <= (u.su.map Ex.en).length + 1 := g2; rw [List.length_map, List.length_map] at h3; omega
        have HT := Lib.hid (sok_of HFR.out.len HFR.out.own.rd hr1)
        have n1 := HT.out.n
        have n2 := HT.out.n2
        have n3 := HK.out.n
        have n4 := HK.out.n2
        have p0 := HK.out.right.ep0
        have p1 := HK.out.right.ep1
        have p0 : 0 <= u.ep := p0
        have p1 : u.ep <= 1099511627776 := p1
        have hw0 : IntKind.i64.wrap (u.ep + 1) = u.ep + 1 := by rw [IntKind.wrap_i64]; omega
        have hw1 : IntKind.i64.wrap ((t.n : Int) - (u.n : Int)) = (t.n : Int) - (u.n : Int) := by rw [IntKind.wrap_i64]; omega
        have hw2 : IntKind.i64.wrap ((t.n2 : Int) - (u.n2 : Int)) = (t.n2 : Int) - (u.n2 : Int) := by rw [IntKind.wrap_i64]; omega
        have d1 : decide ((1 : Int) < (t.n : Int) - (u.n : Int)) = false := decide_eq_false (by omega)
        have d2 : decide ((1 : Int) < (t.n2 : Int) - (u.n2 : Int)) = false := decide_eq_false (by omega)
        clear hep hdo hbt g1 g2 m1 m2 n1 n2 n3 n4 p0 p1 hr1 HDO HBT
        obtain ⟨y0, y1, y2, y3, _⟩ := blk4 BXe.out
        have hly := BXe.out.lt
        go_wp2_with fail
        refine (right_st t HT.out.len HT.out.few HT.out.pa HT.out.pu w9 HT.out.rd true ⟨fun _ => HT.out.right, fun _ => rfl⟩).mono ?_
        rintro e w10 ⟨rfl, hb⟩
        replace BXs := Lib.hid (Blk.below BXs.out hb BXs.out.lt)
        replace BB := Lib.hid (below_next BB.out (by have := BB.out.size; omega) hb)
        replace HK := Lib.hid (HK.out.below hb)
        replace BXe := Lib.hid (Blk.below BXe.out hb BXe.out.lt)
        replace HFR := Lib.hid (HFR.out.below hb)
        replace HT := Lib.hid (HT.out.below hb)
        clear hb
        clear y0 y1 y2 y3 hly
        obtain ⟨y0, y1, y2, y3, _⟩ := blk4 BXe.out
        have hly := BXe.out.lt
        obtain ⟨x0, x1, x2, x3, _⟩ := blk4 BXs.out
        have hlx := BXs.out.lt
        have hte := HTE.out
        obtain ⟨X0, X1, X2, X3, q0, q1, q2, q3⟩ := blk4 BXs.out
        go_wp2_with fail
        have HT2 : Hid (Sok t ((((w10.setCell ⟨w.heap.size, 0, none⟩ (.int .i64 (u.ep + 1))).setCell ⟨w.heap.size, 1, none⟩ (.slice t.A t.n t.c)).setCell ⟨w.heap.size, 2, none⟩ (.slice t.A1 t.n1 t.c1)).setCell ⟨w.heap.size, 3, none⟩ (.slice t.A2 t.n2 t.c2))) := sok_of HT.out.len (HFR.out.put (Nat.lt_succ_self _) _ _ _ _).own.rd HT.out.right
        have BB2 : Hid (Below w.heap.size w ((((w10.setCell ⟨w.heap.size, 0, none⟩ (.int .i64 (u.ep + 1))).setCell ⟨w.heap.size, 1, none⟩ (.slice t.A t.n t.c)).setCell ⟨w.heap.size, 2, none⟩ (.slice t.A1 t.n1 t.c1)).setCell ⟨w.heap.size, 3, none⟩ (.slice t.A2 t.n2 t.c2))) := below_put4 BB.out (Nat.le_refl _) _ _ _ _
        have BX2 : Hid (Blk ((((w10.setCell ⟨w.heap.size, 0, none⟩ (.int .i64 (u.ep + 1))).setCell ⟨w.heap.size, 1, none⟩ (.slice t.A t.n t.c)).setCell ⟨w.heap.size, 2, none⟩ (.slice t.A1 t.n1 t.c1)).setCell ⟨w.heap.size, 3, none⟩ (.slice t.A2 t.n2 t.c2)) w.heap.size 42 #[.int .i64 t.ep, .slice t.A t.n t.c, .slice t.A1 t.n1 t.c1, .slice t.A2 t.n2 t.c2]) := by
         show Blk _ _ _ _
         rw [hte]
         exact Blk.put4 BXs.out _ _ _ _
        go_roundg (len - (k + 1))
        case measure => omega
        case rel => exact ⟨k + 1, t, by omega, Nat.le_refl _, by go_num, HT2, BB2, BX2⟩
       ·have v0 : (er != 0) = true := by simpa using he
        have hbt : t.bk = zeroB := by rw [HBT.out, if_neg he]
        have HT := Lib.hid (sok_of HFR.out.len HFR.out.own.rd (by rw [hbt]; exact rZ0))
        have HQ : Hid (decide (t.bk = zeroS.bk) = true) := decide_eq_true hbt
        clear hbt HDO HBT
        obtain ⟨y0, y1, y2, y3, _⟩ := blk4 BXe.out
        have hly := BXe.out.lt
        go_wp2_with fail
        refine (same_st t zeroS HT.out.len ⟨rfl, Nat.le_refl _, rfl, Nat.le_refl _, rfl, Nat.le_refl _⟩ HT.out.few ⟨by decide, by decide, by decide, shZ, shZ⟩ w9 HT.out.rd ⟨.inl rfl, RdEn.nil _ _, RdEn.nil _ _⟩ true HQ.out).mono ?_
        rintro e w10 ⟨rfl, hb⟩
        replace BXs := Lib.hid (Blk.below BXs.out hb BXs.out.lt)
        replace BB := Lib.hid (below_next BB.out (by have := BB.out.size; omega) hb)
        replace HK := Lib.hid (HK.out.below hb)
        replace BXe := Lib.hid (Blk.below BXe.out hb BXe.out.lt)
        replace HFR := Lib.hid (HFR.out.below hb)
        clear hb
        clear y0 y1 y2 y3 hly
        go_wp2_with fail
        go_roundg (len - (k + 1))
        case measure => omega
        case rel => exact ⟨k + 1, u, by omega, Nat.le_refl _, by go_num, HK, BB, BXs⟩
     ·have hkn : k = len := by omega
      subst hkn
      obtain ⟨x0, x1, x2, x3, _⟩ := blk4 BXs.out
      have hlx := BXs.out.lt
      go_wp2_with fail
      refine (dfold_at u HK.out.len HK.out.few es A k cap HN.out (by omega) HSH.out wr HK.out.right HK.out.rd (HRD.out.below BB.out)).mono ?_
      rintro e w6 ⟨t, m, er, rfl, hf, hfr, hb⟩
      obtain ⟨hr1, hep, hml, hiff⟩ := hf.right HK.out.right
      rw [List.length_map, HN.out] at hml hiff
      have HTE : Hid (t.ep = u.ep + (m : Int)) := hep
      have HFR := Lib.hid hfr
      have HT := Lib.hid (sok_of hfr.len hfr.own.rd hr1)
      clear hf hfr hr1 hep
      replace BXs := Lib.hid (Blk.below BXs.out hb BXs.out.lt)
      replace BB := Lib.hid (below_next BB.out (by have := BB.out.size; omega) hb)
      clear hb
      clear x0 x1 x2 x3 hlx
      have hb : Below w6.heap.size w6 (w6.alloc (.cells #[.int .i64 t.ep, .slice t.A t.n t.c, .slice t.A1 t.n1 t.c1, .slice t.A2 t.n2 t.c2] 42)) := (gr1 w6 _).below
      have BXt := Lib.hid (Blk.new w6 42 #[.int .i64 t.ep, .slice t.A t.n t.c, .slice t.A1 t.n1 t.c1, .slice t.A2 t.n2 t.c2])
      replace BXs := Lib.hid (Blk.below BXs.out hb BXs.out.lt)
      replace BB := Lib.hid (below_next BB.out (by have := BB.out.size; omega) hb)
      replace HT := Lib.hid (HT.out.below hb)
      clear hb
      obtain ⟨y0, y1, y2, y3, _⟩ := blk4 BXt.out
      have hly := BXt.out.lt
      go_wp2_with fail
      clear y0 y1 y2 y3 hly
      generalize w6.alloc (.cells #[.int .i64 t.ep, .slice t.A t.n t.c, .slice t.A1 t.n1 t.c1, .slice t.A2 t.n2 t.c2] 42) = w7 at *
      generalize w6.heap.size = pt at *
      obtain ⟨x0, x1, x2, x3, _⟩ := blk4 BXs.out
      have hlx := BXs.out.lt
      obtain ⟨y0, y1, y2, y3, _⟩ := blk4 BXt.out
      have hly := BXt.out.lt
      refine (right_st t HT.out.len HT.out.few HT.out.pa HT.out.pu w7 HT.out.rd true ⟨fun _ => HT.out.right, fun _ => rfl⟩).mono ?_
      rintro e w8 ⟨rfl, hb⟩
      replace BXs := Lib.hid (Blk.below BXs.out hb BXs.out.lt)
      replace BB := Lib.hid (below_next BB.out (by have := BB.out.size; omega) hb)
      replace HT := Lib.hid (HT.out.below hb)
      replace BXt := Lib.hid (Blk.below BXt.out hb BXt.out.lt)
      clear hb
      clear x0 x1 x2 x3 hlx y0 y1 y2 y3 hly
      obtain ⟨x0, x1, x2, x3, _⟩ := blk4 BXs.out
      have hlx := BXs.out.lt
      obtain ⟨y0, y1, y2, y3, _⟩ := blk4 BXt.out
      have hly := BXt.out.lt
      have p0 : 0 <= u.ep := HK.out.right.ep0
      have p1 : u.ep <= 1099511627776 := HK.out.right.ep1
      have hte := HTE.out
      have hw : IntKind.i64.wrap (u.ep + (m : Int)) = u.ep + (m : Int) := by rw [IntKind.wrap_i64]; omega
      have d1 : decide (m <= k) = true := decide_eq_true hml
      clear HTE p0 p1
      by_cases he : er = 0
      ·obtain rfl : m = k := hiff.1 he
       subst he
       clear hiff
       go_wp2_with fail
       go_ret
       exact ⟨rfl, BB.out⟩
      ·have v0 : (er == 0) = false := beq_eq_false_iff_ne.2 he
       have v1 : ((m : Int) == (k : Int)) = false := beq_eq_false_iff_ne.2 fun h => he (hiff.2 (by omega))
       have v2 : ¬ m = k := fun h => he (hiff.2 h)
       have v3 : (m == k) = false := beq_eq_false_iff_ne.2 v2
       clear hiff
       go_wp2_with fail
       go_ret
       exact ⟨rfl, BB.out⟩
/-! ### The row's step. -/
namespace deedRight
theorem own : ownKnob Tryz.prog.godebug = none := by kernel_rfl
theorem laidOut : laidOutB Tryz.prog = true := by kernel_rfl
set_option linter.unusedVariables false in
theorem lifted (os : Os) (started : os.Started) (H : Type) (enc : TypeId × Value -> H) :
  ReturnsInHanded {} Tryz.checked os 8 .any (Rows.deedRightSpec.pre6 enc Tryz.prog Tryz.f8 Rows.deedRightRow.domain false) (Rows.deedRightSpec.post enc Tryz.prog Tryz.f8 false true false false) := by
 refine returnsInHanded_of_change_sized (C := Tryz.checked) own started (by kernel_rfl) Tryz.func8
  (ChangeSpec.witness6 (enc := enc) (C := Tryz.checked) false ⟨#[], #[.agg #[.int .i64 0, .slice none 0 0, .slice none 0 0, .slice none 0 0], .slice none 0 0], []⟩ 8 (by kernel_rfl) (by kernel_rfl) (by kernel_rfl) (by kernel_rfl)) ?_
 intro W base args ds gs before hval0 hW hcnd hsz0 _
 have hval : ∀ (j : Nat) t v, Tryz.f8.params[j]? = some t -> args[j]? = some v -> Value.okWide Tryz.prog W .any base t v := hval0
 have hsz : (DataW.weightsEach Tryz.prog (Tryz.f8.params.toList ++ Rows.deedRightSpec.plain.varTypes Tryz.prog) (ds ++ gs)).all (· <= reachBytes) = true := hsz0
 have hW' := hW
 obtain ⟨p, q, hA0, hV, rfl, hfz, hnd⟩ := hW
 have hA : DataW.TrodAll enc Tryz.prog W 0 (fun _ => true) true Tryz.f8.params.toList args.toList ds p := hA0
 rw [Tryz.params8] at hA hval hsz
 obtain ⟨v0, vs0, d0, ds0, p0, q0, hargs, rfl, rfl, h0, r0⟩ := trodAll_cons hA
 obtain ⟨v1, vs1, d1, ds1, p1, q1, rfl, rfl, rfl, h1, r1⟩ := trodAll_cons r0
 obtain ⟨rfl, rfl, rfl⟩ := trodAll_nil r1
 obtain rfl : args = #[v0, v1] := by cases args; simp_all
 obtain ⟨rfl, rfl⟩ := trodVars_none hV
 obtain ⟨s0, rfl, ln0, rs0, we0, cp0, sz0, lb0, ab0, ub0⟩ := open_state (hval 0 42 v0 rfl rfl) h0 (fun n hn => by simpa using List.all_eq_true.1 hsz n (DataW.weights_mem_each (j := 0) rfl rfl n hn))
 have k0 := h0
 have lt0 : ∀ x ∈ p0, x.block < W.heap.size := by obtain ⟨m, hm⟩ := k0; exact DataW.trod_lt m _ _ _ hm
 obtain ⟨a1, len1, cap1, rfl⟩ := okWide_slice Tryz.underlying47 (hval 1 47 v1 rfl rfl)
 have k1 := h1
 have lt1 : ∀ x ∈ p1, x.block < W.heap.size := by obtain ⟨m, hm⟩ := k1; exact DataW.trod_lt m _ _ _ hm
 obtain ⟨es1, hl1, hc1, hm1, hz1, rd1, hw1⟩ := open_deeds_of k1 (fun n hn => by simpa using List.all_eq_true.1 hsz n (DataW.weights_mem_each (j := 1) rfl rfl n hn))
 clear hA0 hval0
 refine (walk_DeedRight W s0 ln0 rs0 we0 cp0 sz0 lb0 ab0 ub0 a1 es1 len1 cap1 hl1 hc1 hm1 hz1 rd1 hw1).mono fun e W' ⟨he, bel⟩ => ?_
 subst he
 exact ⟨_, rfl, _, _, _, [], _, [], hW', trodAll_mk1 (shut_bool Tryz.underlying4 _), (trodAll_cons_mk (Below.trod laidOut (by kernel_rfl) (of_decide_eq_true (by kernel_rfl)) k0 bel lt0) (trodAll_cons_mk (Below.trod laidOut (by kernel_rfl) (of_decide_eq_true (by kernel_rfl)) k1 bel lt1) trodAll_mk0)), rfl, bel.frame _, fun h => by cases h⟩
theorem over : Rows.deedRightRow.holds Tryz.pinned (OpenSpec.ofChange Rows.deedRightSpec) :=
 OpenClaim.holds_of_wide 8 Tryz.f8 rfl rfl rfl rfl rfl rfl rfl ⟨rfl, rfl, rfl, rfl, rfl⟩ rfl rfl rfl rfl rfl (by kernel_rfl) Tryz.func8 (by kernel_rfl)
  (of_decide_eq_true (by kernel_rfl)) (by unfold Func.isWrapper; first | (rw [if_pos (by decide +kernel)]; kernel_rfl) | (rw [if_neg (by decide +kernel)]; exact ⟨rfl, rfl⟩))
  (fun os started H enc _ => lifted os started H enc)
end deedRight
theorem deedRight_holds : Rows.DeedRightSaid := deedRight.over
#print axioms deedRight_holds
end Go.Proofs.YtaglnncihmohfaaGreat
