/-
 What was laid of a deed is read as it was, and what is read was laid just so: for every deed and all bytes the call of the law answers true, and all arguments read behind it as they read before. No condition.
-/
import Derived.Test.YtaglnncihmohfaaGreatX8
set_option maxRecDepth 100000
set_option maxHeartbeats 8000000
namespace Go.Proofs.YtaglnncihmohfaaGreat
open Go.RowKit Go.ChangeShapes Go.WideShapes Go.ChangeAt Go.Sort Spans Tb Dm
theorem Dm.Own.pbd {d : Dd} (h : Dm.Own d) : PBd d.f := fun p hp => by
 obtain ⟨S, L, hg⟩ := h.2.good
 obtain ⟨h1, h2, h3⟩ := (rightP_iff p).1 (hg.sound.2 p hp)
 obtain ⟨h4, h5, _⟩ := Preds.right_parts h1
 exact ⟨by omega, by have := (Preds.right_bd h1).2; omega, h2, h3⟩
theorem Dm.DNorm.pbd {d o : Dd} {e : Int} (h : DNorm d o e) : PBd o.f := by
 by_cases he : e = 0
 ·subst he; exact h.good.1.pbd
 ·rw [h.bad he]; exact pbN
theorem not_own0 : ¬ Dm.Own zeroD := fun h => by
 have := h.1.1
 simp [zeroD] at this
theorem fewD_one {x : Dx} (h : fewD [x] = true) : x.n <= 400 /\ shortD x := by
 obtain ⟨h1, h2, h3⟩ := fewD_of h
 exact ⟨h3 x (List.mem_singleton.2 rfl), h1 x (List.mem_singleton.2 rfl)⟩
theorem back_len {bs : List UInt8} {d : Dd} {t : Wire.St} {len : Nat} (h : DGet ⟨bs, 0⟩ d t) (h0 : t.err = 0) (hl : bs.length = len) : Dm.Own d /\ (dbytes d).length <= len /\ t.rest.length = len - (dbytes d).length /\ bs.take (dbytes d).length = dbytes d := by
 obtain ⟨h1, h2⟩ := Dm.get_ok h h0
 subst h2
 rw [List.length_append] at hl
 exact ⟨h1, by omega, by omega, by simp⟩
theorem walk_DeedBack (w : World) (x : Dx) (fx : FltD w x) (bx : DBx [x]) (A : Option Addr) (bs : List UInt8) (len cap : Nat) (hl : bs.length = len) (hc : len <= cap) (hm : cap <= 140737488351232) (rd : Rd w A bs) :
  Calls Tryz.prog 7 #[dxV x, .slice A len cap] w fun e w' => e = .returned (.bool true) /\ Below w.heap.size w w' := by
 obtain ⟨xk, xi, xr, xa, xA, xn, xc, xf⟩ := x
 obtain ⟨hx1, hx2, hx3⟩ := fx
 dsimp only at hx1 hx2 hx3
 have HN := Lib.hid hl
 have HXN := Lib.hid hx1
 have hb0 := (gr1 w (.cells #[.int .i64 xk, .int .i64 xi, .int .i64 xr, .string ⟨xa.toArray⟩, .slice xA xn xc] 44)).below
 have HB := Lib.hid hb0
 have RX := Lib.hid (RdK.below hx3 hb0)
 have RA := Lib.hid (rd.below hb0)
 have HX := Lib.hid (Blk.new w 44 #[.int .i64 xk, .int .i64 xi, .int .i64 xr, .string ⟨xa.toArray⟩, .slice xA xn xc])
 have HBX := Lib.hid bx
 clear hl hx1 hx3 hb0 rd bx
 go_enter Tryz.func7, Tryz.ntmps7
 go_wp2_with fail
 generalize w.alloc (.cells #[.int .i64 xk, .int .i64 xi, .int .i64 xr, .string ⟨xa.toArray⟩, .slice xA xn xc] 44) = w0 at *
 refine (dsmall_at w0).mono ?_
 rintro e w1 ⟨rfl, hb⟩
 replace HB := Lib.hid (below_next HB.out (Nat.le_refl _) hb)
 replace RX := Lib.hid (RdK.below RX.out hb)
 replace RA := Lib.hid (Rd.below RA.out hb)
 replace HX := Lib.hid (HX.out.below hb HX.out.lt)
 clear hb
 obtain ⟨d0, d1, d2, d3, d4, _⟩ := blk5 HX.out
 have hrx := rdk_one layD w1 ⟨xk, xi, xr, xa, xA, xn, xc, xf⟩ 44 #[.int .i64 xk, .int .i64 xi, .int .i64 xr, .string ⟨xa.toArray⟩, .slice xA xn xc] rfl
 have hb := (gr1 w1 (.cells #[.int .i64 xk, .int .i64 xi, .int .i64 xr, .string ⟨xa.toArray⟩, .slice xA xn xc] 44)).below
 replace HB := Lib.hid (below_next HB.out (Nat.le_refl _) hb)
 replace RX := Lib.hid (RdK.below RX.out hb)
 replace RA := Lib.hid (Rd.below RA.out hb)
 replace HX := Lib.hid (HX.out.below hb HX.out.lt)
 clear hb
 have HRD : Hid (RdDx (w1.alloc (.cells #[.int .i64 xk, .int .i64 xi, .int .i64 xr, .string ⟨xa.toArray⟩, .slice xA xn xc] 44)) (some ⟨w1.heap.size, 0, none⟩) [⟨xk, xi, xr, xa, xA, xn, xc, xf⟩]) := ⟨hrx, fun y hy => by simp at hy; subst hy; exact ⟨HXN.out, hx2, RX.out⟩⟩
 clear hrx
 go_wp2_with fail
 clear d0 d1 d2 d3 d4
 generalize w1.alloc (.cells #[.int .i64 xk, .int .i64 xi, .int .i64 xr, .string ⟨xa.toArray⟩, .slice xA xn xc] 44) = w2 at *
 obtain ⟨q, hq⟩ : ∃ q, fewD [⟨xk, xi, xr, xa, xA, xn, xc, xf⟩] = q := ⟨_, rfl⟩
 have HQ := Lib.hid hq
 clear hq
 refine (dfew_at (some ⟨w1.heap.size, 0, none⟩) [⟨xk, xi, xr, xa, xA, xn, xc, xf⟩] 1 1 rfl (by decide) HBX.out w2 HRD.out q HQ.out).mono ?_
 rintro e w3 ⟨rfl, hb⟩
 replace HB := Lib.hid (below_next HB.out (Nat.le_refl _) hb)
 replace RX := Lib.hid (RdK.below RX.out hb)
 replace RA := Lib.hid (Rd.below RA.out hb)
 replace HX := Lib.hid (HX.out.below hb HX.out.lt)
 clear hb
 clear HRD
 go_wp2_with fail
 refine (on_at A bs len cap HN.out (by omega) w3 RA.out).mono ?_
 rintro e w4 ⟨gs, rfl, hgs, hb, hsc⟩
 have SS := Lib.hid hsc
 have hgw : w.heap.size <= gs := Nat.le_trans HB.out.size hgs
 clear hsc hgs
 replace HB := Lib.hid (below_next HB.out (Nat.le_refl _) hb)
 replace RX := Lib.hid (RdK.below RX.out hb)
 replace RA := Lib.hid (Rd.below RA.out hb)
 replace HX := Lib.hid (HX.out.below hb HX.out.lt)
 clear hb
 cases q with
 | false =>
  go_wp2_with fail
  go_ret
  exact ⟨rfl, HB.out⟩
 | true =>
  by_cases a1 : 600 < len
  ·have q1 : decide ((600 : Int) < (len : Int)) = true := by simp; omega
   clear a1
   go_wp2_with fail
   go_ret
   exact ⟨rfl, HB.out⟩
  have q1 : decide ((600 : Int) < (len : Int)) = false := by simp; omega
  have h4 := fewD_one HQ.out
  obtain ⟨hx4, hx5⟩ := h4
  dsimp only at hx4
  have HPX : Hid (PBd xf) := fun p hp => ⟨(hx5.2 p hp).1, (hx5.2 p hp).2, ((HBX.out _ (List.mem_singleton.2 rfl)).2.2 p hp).2.2⟩
  clear hx5 HBX
  obtain ⟨d0, d1, d2, d3, d4, _⟩ := blk5 HX.out
  go_wp2_with fail
  clear d0 d1 d2 d3 d4
  refine (dnorm_at ⟨xk, xi, xr, xa, xf⟩ xA xn xc HXN.out (by omega) HPX.out w4 RX.out).mono ?_
  rintro e w5 ⟨⟨ok, oi, of, oa, off⟩, er, A1, n1, c1, rfl, hdn, hl1, hc1, ho1, hb⟩
  dsimp only at hl1 ho1
  have HDN := Lib.hid hdn
  have HL1 := Lib.hid hl1
  have RO := Lib.hid (own_rdq ho1)
  have HPO : Hid (PBd off) := hdn.pbd
  have hn1 : n1 <= 100000 := hdn.short hl1
  clear HPX HXN hdn hl1 ho1 RX HX
  replace HB := Lib.hid (below_next HB.out (Nat.le_refl _) hb)
  replace RA := Lib.hid (Rd.below RA.out hb)
  replace SS := Lib.hid (Sc.below SS.out hb)
  clear hb
  have hb := (gr1 w5 (.cells #[.int .i64 ok, .int .i64 oi, .int .i64 of, .string ⟨oa.toArray⟩, .slice A1 n1 c1] 44)).below
  have HO := Lib.hid (Blk.new w5 44 #[.int .i64 ok, .int .i64 oi, .int .i64 of, .string ⟨oa.toArray⟩, .slice A1 n1 c1])
  replace HB := Lib.hid (below_next HB.out (Nat.le_refl _) hb)
  replace RA := Lib.hid (Rd.below RA.out hb)
  replace SS := Lib.hid (Sc.below SS.out hb)
  replace RO := Lib.hid (RdK.below RO.out hb)
  clear hb
  obtain ⟨d0, d1, d2, d3, d4, _⟩ := blk5 HO.out
  go_wp2_with fail
  clear d0 d1 d2 d3 d4
  generalize w5.alloc (.cells #[.int .i64 ok, .int .i64 oi, .int .i64 of, .string ⟨oa.toArray⟩, .slice A1 n1 c1] 44) = w6 at *
  generalize w5.heap.size = p8 at *
  refine (dput_at none [] 0 0 rfl (by decide) ok oi of oa off A1 n1 c1 HL1.out hn1 HPO.out w6 (.inl rfl) RO.out).mono ?_
  rintro e w7 ⟨fs, hfl, hf9, D, cc, he, hcc, hb, hrd⟩
  rw [List.nil_append] at hrd
  obtain ⟨fl, hfn⟩ : ∃ z, fs.length = z := ⟨_, rfl⟩
  rw [hfn, Nat.zero_add] at he hcc
  rw [hfn] at hf9
  subst he
  have HFN := Lib.hid hfn
  have RB := Lib.hid hrd
  have HFL := Lib.hid hfl
  clear hfl hrd hfn
  replace HB := Lib.hid (below_next HB.out (Nat.le_refl _) hb)
  replace RA := Lib.hid (Rd.below RA.out hb)
  replace SS := Lib.hid (Sc.below SS.out hb)
  replace RO := Lib.hid (RdK.below RO.out hb)
  replace HO := Lib.hid (HO.out.below hb HO.out.lt)
  clear hb
  go_wp2_with fail
  refine (on_at D fs fl cc HFN.out (by omega) w7 RB.out).mono ?_
  rintro e w8 ⟨gt, rfl, hgt, hbo, hsc⟩
  have ST := Lib.hid hsc
  have HBO := Lib.hid hbo
  clear hsc hbo RB
  have hag : er = 0 ↔ 0 < fl := by
   have h1 := HDN.out
   have h2 := HFL.out
   rw [<- HFN.out]
   constructor
   ·intro h; subst h
    obtain rfl := h2.one (.inl ⟨h1.good.1, rfl⟩)
    simp [dbytes]
   ·intro h
    refine Classical.byContradiction fun he => ?_
    have h3 := h1.bad he
    rcases h2 with ⟨h4, _⟩ | ⟨_, h4⟩
    ·rw [h3] at h4; exact not_own0 h4
    ·rw [h4] at h; simp at h
  have HAG := Lib.hid hag
  go_upto_region 9 with fail
  clear hag q1 a1
  go_cut [54] from 14 (fun s54 wx => s54 = .bool false /\ w8 = wx)
  case first =>
   by_cases he : er = 0
   ·have q4 : decide (0 < fl) = true := decide_eq_true (HAG.out.1 he)
    subst he
    go_wp2_with fail
    go_meet
    exact ⟨rfl, rfl⟩
   ·have q4 : decide (0 < fl) = false := decide_eq_false fun h => he (HAG.out.2 h)
    have v1 : (er == 0) = false := beq_eq_false_iff_ne.2 he
    go_wp2_with fail
    go_meet
    exact ⟨rfl, rfl⟩
  case rest =>
   obtain ⟨rfl, rfl⟩ := hcut
   obtain ⟨z9, hz9⟩ : ∃ z, (er == 0) = z := ⟨_, rfl⟩
   have HZ9 := Lib.hid hz9
   clear hz9
   go_upto_region 11 with fail
   go_cut [68] from 14 (fun s68 wx => s68 = .bool false /\ Hid (Below w7.heap.size w7 wx))
   case first =>
    have hkeep : Hid (∀ w', Below w7.heap.size w7 w' -> Below w7.heap.size w7 w' /\ w'.cell? ⟨p8, 0, none⟩ = some (.int .i64 ok) /\ w'.cell? ⟨p8, 1, none⟩ = some (.int .i64 oi) /\ w'.cell? ⟨p8, 2, none⟩ = some (.int .i64 of) /\ w'.cell? ⟨p8, 3, none⟩ = some (.string ⟨oa.toArray⟩) /\ w'.cell? ⟨p8, 4, none⟩ = some (.slice A1 n1 c1)) := fun w' h => ⟨h, (HO.out.below h HO.out.lt).cell 0, (HO.out.below h HO.out.lt).cell 1, (HO.out.below h HO.out.lt).cell 2, (HO.out.below h HO.out.lt).cell 3, (HO.out.below h HO.out.lt).cell 4⟩
    have hS0 := hkeep.out w8.drew HBO.out.drew
    have ST2 := Lib.hid (Sc.drew ST.out)
    cases z9 with
    | false =>
     have hz := HZ9.out
     refine wp_region_held_drew (S := fun w' => Below w7.heap.size w7 w' /\ w'.cell? ⟨p8, 0, none⟩ = some (.int .i64 ok) /\ w'.cell? ⟨p8, 1, none⟩ = some (.int .i64 oi) /\ w'.cell? ⟨p8, 2, none⟩ = some (.int .i64 of) /\ w'.cell? ⟨p8, 3, none⟩ = some (.string ⟨oa.toArray⟩) /\ w'.cell? ⟨p8, 4, none⟩ = some (.slice A1 n1 c1)) (by kernel_rfl) hS0 (fun _ => ?_)
     refine wq 0 55 (v := ?_) rfl rfl (by kernel_rfl) (fun _ _ _ h => h) (by rfl) ?_ hS0 ?_
     rotate_left
     ·intro w' hSw; go_simp <;> with_reducible rfl
     simp only [Act.put, zu0, zu1, zu2]
     refine wq 1 56 (v := ?_) rfl rfl (by kernel_rfl) (fun _ _ _ h => h) (by rfl) ?_ hS0 ?_
     rotate_left
     ·intro w' hSw; go_simp <;> with_reducible rfl
     simp only [Act.put, zu0, zu1, zu2]
     refine wq 2 57 (v := ?_) rfl rfl (by kernel_rfl) (fun _ _ _ h => h) (by rfl) ?_ hS0 ?_
     rotate_left
     ·intro w' hSw; go_simp <;> with_reducible rfl
     simp only [Act.put, zu0, zu1, zu2]
     refine wpAnyH_no (i := 3) (d := 58) rfl rfl (by kernel_rfl) (by kernel_rfl) (by kernel_rfl) (fun _ _ _ h => h) (by rfl) hS0 ?_
     simp only [Act.put, zu0, zu1, zu2]
     refine wpAnyH_no (i := 4) (d := 59) rfl rfl (by kernel_rfl) (by kernel_rfl) (by kernel_rfl) (fun _ _ _ h => h) (by rfl) hS0 ?_
     simp only [Act.put, zu0, zu1, zu2]
     refine wpAnyH_no (i := 5) (d := 60) rfl rfl (by kernel_rfl) (by kernel_rfl) (by kernel_rfl) (fun _ _ _ h => h) (by rfl) hS0 ?_
     simp only [Act.put, zu0, zu1, zu2]
     refine wpAnyH_no (i := 6) (d := 61) rfl rfl (by kernel_rfl) (by kernel_rfl) (by kernel_rfl) (fun _ _ _ h => h) (by rfl) hS0 ?_
     simp only [Act.put, zu0, zu1, zu2]
     refine wpAnyH_no (i := 7) (d := 62) rfl rfl (by kernel_rfl) (by kernel_rfl) (by kernel_rfl) (fun _ _ _ h => h) (by rfl) hS0 ?_
     simp only [Act.put, zu0, zu1, zu2]
     refine wpAnyH_no (i := 8) (d := 63) rfl rfl (by kernel_rfl) (by kernel_rfl) (by kernel_rfl) (fun _ _ _ h => h) (by rfl) hS0 ?_
     simp only [Act.put, zu0, zu1, zu2]
     refine wpAnyH_no (i := 9) (d := 64) rfl rfl (by kernel_rfl) (by kernel_rfl) (by kernel_rfl) (fun _ _ _ h => h) (by rfl) hS0 ?_
     simp only [Act.put, zu0, zu1, zu2]
     refine wpAnyH_no (i := 10) (d := 65) rfl rfl (by kernel_rfl) (by kernel_rfl) (by kernel_rfl) (fun _ _ _ h => h) (by rfl) hS0 ?_
     simp only [Act.put, zu0, zu1, zu2]
     refine wpAnyH_no (i := 11) (d := 66) rfl rfl (by kernel_rfl) (by kernel_rfl) (by kernel_rfl) (fun _ _ _ h => h) (by rfl) hS0 ?_
     simp only [Act.put, zu0, zu1, zu2]
     refine wpAnyH_no (i := 12) (d := 67) rfl rfl (by kernel_rfl) (by kernel_rfl) (by kernel_rfl) (fun _ _ _ h => h) (by rfl) hS0 ?_
     simp only [Act.put, zu0, zu1, zu2]
     refine wq 13 68 (v := ?_) rfl rfl (by kernel_rfl) (fun _ _ _ h => h) (by rfl) ?_ hS0 ?_
     rotate_left
     ·intro w' hSw; go_simp <;> with_reducible rfl
     simp only [Act.put, zu0, zu1, zu2]
     refine wpAnyH_done (by kernel_rfl) ?_ _
     have hres := Lib.hid hS0.1
     clear hS0 hkeep
     go_wp2_with fail
     go_meet
     case rel => exact ⟨rfl, hres.out⟩
    | true =>
     obtain rfl : er = 0 := by simpa using HZ9.out
     have HOW := Lib.hid HDN.out.good.1
     have hE : fs = dbytes ⟨ok, oi, of, oa, off⟩ := HFL.out.one (.inl ⟨HOW.out, rfl⟩)
     rw [hE] at ST2
     have ST3 : Hid (Sc w8.drew gt 119 ⟨dbytes ⟨ok, oi, of, oa, off⟩ ++ [], 0⟩) := by rw [List.append_nil]; exact ST2.out
     clear ST2 hE
     refine wp_region_held_drew (S := fun w' => Below w7.heap.size w7 w' /\ w'.cell? ⟨p8, 0, none⟩ = some (.int .i64 ok) /\ w'.cell? ⟨p8, 1, none⟩ = some (.int .i64 oi) /\ w'.cell? ⟨p8, 2, none⟩ = some (.int .i64 of) /\ w'.cell? ⟨p8, 3, none⟩ = some (.string ⟨oa.toArray⟩) /\ w'.cell? ⟨p8, 4, none⟩ = some (.slice A1 n1 c1)) (by kernel_rfl) hS0 (fun _ => ?_)
     refine wq 0 55 (v := ?_) rfl rfl (by kernel_rfl) (fun _ _ _ h => h) (by rfl) ?_ hS0 ?_
     rotate_left
     ·intro w' hSw; go_simp <;> with_reducible rfl
     simp only [Act.put, zu0, zu1, zu2]
     refine wq 1 56 (v := ?_) rfl rfl (by kernel_rfl) (fun _ _ _ h => h) (by rfl) ?_ hS0 ?_
     rotate_left
     ·intro w' hSw; go_simp <;> with_reducible rfl
     simp only [Act.put, zu0, zu1, zu2]
     refine wq 2 57 (v := ?_) rfl rfl (by kernel_rfl) (fun _ _ _ h => h) (by rfl) ?_ hS0 ?_
     rotate_left
     ·intro w' hSw; go_simp <;> with_reducible rfl
     simp only [Act.put, zu0, zu1, zu2]
     refine wq 3 58 (v := ?_) rfl rfl (by kernel_rfl) (fun _ _ _ h => h) (by rfl) ?_ hS0 ?_
     rotate_left
     ·intro w' hSw; go_simp <;> with_reducible rfl
     simp only [Act.put, zu0, zu1, zu2]
     refine wq 5 60 (v := ?_) rfl rfl (by kernel_rfl) (fun _ _ _ h => h) (by rfl) ?_ hS0 ?_
     rotate_left
     ·intro w' hSw; go_simp <;> with_reducible rfl
     simp only [Act.put, zu0, zu1, zu2]
     refine wpAnyH_one (i := 4) (by kernel_rfl) rfl (by rfl) (fun Kx hK1 => ?_)
     go_simp
     with_reducible refine (dget_at w8.drew gt _ ST3.out).mono ?_
     rintro e w9 ⟨⟨yk, yi, yr, ya, yf⟩, s', yA, yn, yc, hg, rfl, hl9, h24, hc9, ho9, hs9, ht9⟩
     obtain ⟨h, rfl⟩ := Dm.get_lay HOW.out [] hg
     injection h with h1 h2 h3 h4 h5
     subst h1 h2 h3 h4 h5
     have hS1 := hkeep.out _ (ht9.below hS0.1 hS0.1.size hgt)
     have RY := Lib.hid (own_rdq ho9)
     have HL9 := Lib.hid hl9
     have S9 := Lib.hid hs9
     clear hg ho9 hs9 ht9 hl9
     go_wp2_with fail
     refine hK1.out _ _ hS1 ?_
     refine wpAnyH_one (i := 6) (by kernel_rfl) rfl (by rfl) (fun Kx hK2 => ?_)
     go_simp
     with_reducible refine (dsame_at yk yi yr ya yf yA yn yc HL9.out (by omega) yk yi yr ya yf A1 n1 c1 HL1.out hn1 w9 RY.out (RdK.below RO.out hS1.1) true (decide_eq_true rfl)).mono ?_
     rintro e w10 ⟨rfl, hb10⟩
     have hS2 := hkeep.out _ (below_next hS1.1 (Nat.le_refl _) hb10)
     have S10 := Lib.hid (Sc.below S9.out hb10)
     go_wp2_with fail
     refine hK2.out _ _ hS2 ?_
     refine wq 7 62 (v := ?_) rfl rfl (by kernel_rfl) (fun _ _ _ h => h) (by rfl) ?_ hS2 ?_
     rotate_left
     ·intro w' hSw; go_simp <;> with_reducible rfl
     simp only [Act.put, zu0, zu1, zu2]
     refine wq 8 63 (v := ?_) rfl rfl (by kernel_rfl) (fun _ _ _ h => h) (by rfl) ?_ hS2 ?_
     rotate_left
     ·intro w' hSw; go_simp <;> with_reducible rfl
     simp only [Act.put, zu0, zu1, zu2]
     refine wq 9 64 (v := ?_) rfl rfl (by kernel_rfl) (fun _ _ _ h => h) (by rfl) ?_ hS2 ?_
     rotate_left
     ·intro w' hSw; go_simp <;> with_reducible rfl
     simp only [Act.put, zu0, zu1, zu2]
     refine wpAnyH_one (i := 10) (by kernel_rfl) rfl (by rfl) (fun Kx hK3 => ?_)
     go_simp
     with_reducible refine (end_at w10 gt _ S10.out 0 rfl).mono ?_
     rintro e wy ⟨rfl, rfl⟩
     go_wp2_with fail
     refine hK3.out _ _ hS2 ?_
     refine wq 11 66 (v := ?_) rfl rfl (by kernel_rfl) (fun _ _ _ h => h) (by rfl) ?_ hS2 ?_
     rotate_left
     ·intro w' hSw; go_simp <;> with_reducible rfl
     simp only [Act.put, zu0, zu1, zu2]
     refine wq 12 67 (v := ?_) rfl rfl (by kernel_rfl) (fun _ _ _ h => h) (by rfl) ?_ hS2 ?_
     rotate_left
     ·intro w' hSw; go_simp <;> with_reducible rfl
     simp only [Act.put, zu0, zu1, zu2]
     refine wq 13 68 (v := ?_) rfl rfl (by kernel_rfl) (fun _ _ _ h => h) (by rfl) ?_ hS2 ?_
     rotate_left
     ·intro w' hSw; go_simp <;> with_reducible rfl
     simp only [Act.put, zu0, zu1, zu2]
     refine wpAnyH_done (by kernel_rfl) ?_ _
     have hres := Lib.hid hS2.1
     clear hS0 hS1 hS2 hkeep
     go_wp2_with fail
     go_meet
     case rel => exact ⟨rfl, hres.out⟩
   case rest =>
    obtain ⟨rfl, hb⟩ := hcut
    replace HB := Lib.hid (below_next HB.out (Nat.le_refl _) hb)
    replace RA := Lib.hid (Rd.below RA.out hb)
    replace SS := Lib.hid (Sc.below SS.out hb)
    clear hb HO RO HDN HL1 HPO HFN HFL ST HBO HAG HZ9
    go_wp2_with fail
    refine (dget_at wc gs _ SS.out).mono ?_
    rintro e w9 ⟨⟨yk, yi, yr, ya, yf⟩, s', yA, yn, yc, hg, rfl, hl9, h24, hc9, ho9, hs9, ht9⟩
    dsimp only at hl9 ho9
    have HG := Lib.hid hg
    have RY := Lib.hid (own_rdq ho9)
    have HL9 := Lib.hid hl9
    replace HB := Lib.hid (ht9.below HB.out HB.out.size hgw)
    replace RA := Lib.hid (ht9.rd_sc SS.out RA.out)
    replace SS := Lib.hid hs9
    clear hg ho9 hs9 ht9 hl9
    have hb := (gr1 w9 (.cells #[.int .i64 yk, .int .i64 yi, .int .i64 yr, .string ⟨ya.toArray⟩, .slice yA yn yc] 44)).below
    have HY := Lib.hid (Blk.new w9 44 #[.int .i64 yk, .int .i64 yi, .int .i64 yr, .string ⟨ya.toArray⟩, .slice yA yn yc])
    replace HB := Lib.hid (below_next HB.out (Nat.le_refl _) hb)
    replace RA := Lib.hid (Rd.below RA.out hb)
    replace SS := Lib.hid (Sc.below SS.out hb)
    replace RY := Lib.hid (RdK.below RY.out hb)
    clear hb
    go_wp2_with fail
    generalize w9.alloc (.cells #[.int .i64 yk, .int .i64 yi, .int .i64 yr, .string ⟨ya.toArray⟩, .slice yA yn yc] 44) = w10 at *
    generalize w9.heap.size = p12 at *
    obtain ⟨z, hz⟩ : ∃ z, s'.err = z := ⟨_, rfl⟩
    have HZ := Lib.hid hz
    clear hz
    refine (err_at w10 gs s' SS.out z HZ.out).mono ?_
    rintro e wy ⟨rfl, rfl⟩
    obtain ⟨d0, d1, d2, d3, d4, _⟩ := blk5 HY.out
    by_cases h0 : z = 0
    ·subst h0
     obtain ⟨hown, hle, hrest, htk⟩ := back_len HG.out HZ.out HN.out
     have HOW := Lib.hid hown
     have HPY : Hid (PBd yf) := hown.pbd
     obtain ⟨j, hj⟩ : ∃ z, (dbytes ⟨yk, yi, yr, ya, yf⟩).length = z := ⟨_, rfl⟩
     rw [hj] at hle hrest htk
     obtain ⟨y, hy⟩ : ∃ z, dbytes ⟨yk, yi, yr, ya, yf⟩ = z := ⟨_, rfl⟩
     rw [hy] at hj htk
     have HJ := Lib.hid hj
     have HTK := Lib.hid htk
     have HYE := Lib.hid hy
     have HRS := Lib.hid hrest
     clear hown hj htk hy hrest
     go_wp2_with fail
     clear d0 d1 d2 d3 d4
     refine (dput_at none [] 0 0 rfl (by decide) yk yi yr ya yf yA yn yc HL9.out (by omega) HPY.out w10 (.inl rfl) RY.out).mono ?_
     rintro e w11 ⟨fs2, hfl, hf9, D2, c2, he, hcc2, hb, hrd⟩
     obtain rfl : y = fs2 := by rw [<- HYE.out]; exact (hfl.one (.inl ⟨HOW.out, rfl⟩)).symm
     rw [List.nil_append] at hrd
     rw [HJ.out, Nat.zero_add] at he hcc2
     subst he
     have RB := Lib.hid hrd
     clear hfl hf9 hrd
     have hra : Rd w11 A y := by rw [<- HTK.out]; exact (RA.out.below hb).take j
     have hSS := Lib.hid (Sc.below SS.out hb)
     replace HB := Lib.hid (below_next HB.out (Nat.le_refl _) hb)
     have hhead := run_head A len cap j hle hc
     have q3 : decide ((j : Int) <= (len : Int)) = true := by simp; omega
     clear hb RA SS RY HY
     go_wp2_with fail
     have hkeep : Hid (∀ w', Below w11.heap.size w11 w' -> Below w11.heap.size w11 w' /\ Sem.run Tryz.prog (convert 24 9 (.slice D2 j c2)) w' = .ok (.string ⟨y.toArray⟩) w' /\ Sem.run Tryz.prog (convert 24 9 (.slice A j cap)) w' = .ok (.string ⟨y.toArray⟩) w') := fun w' h => ⟨h, str_below c2 RB.out HJ.out h, str_below cap hra HJ.out h⟩
     have hT0 := hkeep.out w11.drew (Below.refl _ _).drew
     refine wp_region_held_drew (S := fun w' => Below w11.heap.size w11 w' /\ Sem.run Tryz.prog (convert 24 9 (.slice D2 j c2)) w' = .ok (.string ⟨y.toArray⟩) w' /\ Sem.run Tryz.prog (convert 24 9 (.slice A j cap)) w' = .ok (.string ⟨y.toArray⟩) w') (by kernel_rfl) hT0 (fun _ => ?_)
     refine wq 0 82 (v := ?_) rfl rfl (by kernel_rfl) (fun _ _ _ h => h) (by rfl) ?_ hT0 ?_
     rotate_left
     ·intro w' hSw; go_simp <;> with_reducible rfl
     simp only [Act.put, zu0, zu1, zu2]
     refine wq 1 83 (v := ?_) rfl rfl (by kernel_rfl) (fun _ _ _ h => h) (by rfl) ?_ hT0 ?_
     rotate_left
     ·intro w' hSw; go_simp <;> with_reducible rfl
     simp only [Act.put, zu0, zu1, zu2]
     refine wq 2 84 (v := ?_) rfl rfl (by kernel_rfl) (fun _ _ _ h => h) (by rfl) ?_ hT0 ?_
     rotate_left
     ·intro w' hSw; go_simp <;> with_reducible rfl
     simp only [Act.put, zu0, zu1, zu2]
     refine wq 3 85 (v := ?_) rfl rfl (by kernel_rfl) (fun _ _ _ h => h) (by rfl) ?_ hT0 ?_
     rotate_left
     ·intro w' hSw; go_simp <;> with_reducible rfl
     simp only [Act.put, zu0, zu1, zu2]
     refine wq 4 86 (v := ?_) rfl rfl (by kernel_rfl) (fun _ _ _ h => h) (by rfl) ?_ hT0 ?_
     rotate_left
     ·intro w' hSw; go_simp <;> with_reducible rfl
     simp only [Act.put, zu0, zu1, zu2]
     refine wq 5 87 (v := ?_) rfl rfl (by kernel_rfl) (fun _ _ _ h => h) (by rfl) ?_ hT0 ?_
     rotate_left
     ·intro w' hSw; go_simp <;> with_reducible rfl
     simp only [Act.put, zu0, zu1, zu2]
     refine wq 6 88 (v := ?_) rfl rfl (by kernel_rfl) (fun _ _ _ h => h) (by rfl) ?_ hT0 ?_
     rotate_left
     ·intro w' hSw; go_simp <;> with_reducible rfl
     simp only [Act.put, zu0, zu1, zu2]
     refine wq 7 89 (v := ?_) rfl rfl (by kernel_rfl) (fun _ _ _ h => h) (by rfl) ?_ hT0 ?_
     rotate_left
     ·intro w' hSw; go_simp <;> with_reducible rfl
     simp only [Act.put, zu0, zu1, zu2]
     refine wq 8 90 (v := ?_) rfl rfl (by kernel_rfl) (fun _ _ _ h => h) (by rfl) ?_ hT0 ?_
     rotate_left
     ·intro w' hSw; go_simp <;> with_reducible rfl
     simp only [Act.put, zu0, zu1, zu2]
     refine wq 9 91 (v := ?_) rfl rfl (by kernel_rfl) (fun _ _ _ h => h) (by rfl) ?_ hT0 ?_
     rotate_left
     ·intro w' hSw; go_simp <;> with_reducible rfl
     simp only [Act.put, zu0, zu1, zu2]
     refine wq 10 92 (v := ?_) rfl rfl (by kernel_rfl) (fun _ _ _ h => h) (by rfl) ?_ hT0 ?_
     rotate_left
     ·intro w' hSw; go_simp <;> with_reducible rfl
     simp only [Act.put, zu0, zu1, zu2]
     refine wq 11 93 (v := ?_) rfl rfl (by kernel_rfl) (fun _ _ _ h => h) (by rfl) ?_ hT0 ?_
     rotate_left
     ·intro w' hSw; go_simp <;> with_reducible rfl
     simp only [Act.put, zu0, zu1, zu2]
     refine wq 12 94 (v := ?_) rfl rfl (by kernel_rfl) (fun _ _ _ h => h) (by rfl) ?_ hT0 ?_
     rotate_left
     ·intro w' hSw; go_simp <;> with_reducible rfl
     simp only [Act.put, zu0, zu1, zu2]
     refine wq 13 95 (v := ?_) rfl rfl (by kernel_rfl) (fun _ _ _ h => h) (by rfl) ?_ hT0 ?_
     rotate_left
     ·intro w' hSw; go_simp <;> with_reducible rfl
     simp only [Act.put, zu0, zu1, zu2]
     refine wpAnyH_one (i := 14) (by kernel_rfl) rfl (by rfl) (fun Kx hK4 => ?_)
     go_simp
     with_reducible refine (left_at w11.drew gs s' (Sc.drew hSS.out) (len - j) HRS.out).mono ?_
     rintro e wy ⟨rfl, rfl⟩
     go_wp2_with fail
     refine hK4.out _ _ hT0 ?_
     refine wpAnyH_yes (i := 15) (d := 97) (v := .int .i64 (j : Int)) rfl rfl (by kernel_rfl) (by kernel_rfl) (by kernel_rfl) (fun _ _ _ h => h) (by rfl) ?_ hT0 ?_
     ·intro w' hSw
      go_simp
      rw [show ((len : Int) - ((len - j : Nat) : Int)) = (j : Int) by omega]
      rw [IntKind.wrap_i64]
      omega
     simp only [Act.put, zu0, zu1, zu2]
     refine wq 16 98 (v := ?_) rfl rfl (by kernel_rfl) (fun _ _ _ h => h) (by rfl) ?_ hT0 ?_
     rotate_left
     ·intro w' hSw; go_simp <;> with_reducible rfl
     simp only [Act.put, zu0, zu1, zu2]
     refine wq 17 99 (v := ?_) rfl rfl (by kernel_rfl) (fun _ _ _ h => h) (by rfl) ?_ hT0 ?_
     rotate_left
     ·intro w' hSw; go_simp <;> with_reducible rfl
     simp only [Act.put, zu0, zu1, zu2]
     refine wq 18 100 (v := ?_) rfl rfl (by kernel_rfl) (fun _ _ _ h => h) (by rfl) ?_ hT0 ?_
     rotate_left
     ·intro w' hSw; go_simp <;> with_reducible rfl
     simp only [Act.put, zu0, zu1, zu2]
     refine wq 19 101 (v := ?_) rfl rfl (by kernel_rfl) (fun _ _ _ h => h) (by rfl) ?_ hT0 ?_
     rotate_left
     ·intro w' hSw; go_simp <;> with_reducible rfl
     simp only [Act.put, zu0, zu1, zu2]
     refine wq 20 102 (v := ?_) rfl rfl (by kernel_rfl) (fun _ _ _ h => h) (by rfl) ?_ hT0 ?_
     rotate_left
     ·intro w' hSw; go_simp <;> with_reducible rfl
     simp only [Act.put, zu0, zu1, zu2]
     refine wq 21 103 (v := ?_) rfl rfl (by kernel_rfl) (fun _ _ _ h => h) (by rfl) ?_ hT0 ?_
     rotate_left
     ·intro w' hSw; go_simp <;> with_reducible rfl
     simp only [Act.put, zu0, zu1, zu2]
     refine wq 22 104 (v := ?_) rfl rfl (by kernel_rfl) (fun _ _ _ h => h) (by rfl) ?_ hT0 ?_
     rotate_left
     ·intro w' hSw; go_simp <;> with_reducible rfl
     simp only [Act.put, zu0, zu1, zu2]
     refine wq 23 105 (v := ?_) rfl rfl (by kernel_rfl) (fun _ _ _ h => h) (by rfl) ?_ hT0 ?_
     rotate_left
     ·intro w' hSw; go_simp <;> with_reducible rfl
     simp only [Act.put, zu0, zu1, zu2]
     refine wq 24 106 (v := ?_) rfl rfl (by kernel_rfl) (fun _ _ _ h => h) (by rfl) ?_ hT0 ?_
     rotate_left
     ·intro w' hSw; go_simp <;> with_reducible rfl
     simp only [Act.put, zu0, zu1, zu2]
     refine wq 25 107 (v := ?_) rfl rfl (by kernel_rfl) (fun _ _ _ h => h) (by rfl) ?_ hT0 ?_
     rotate_left
     ·intro w' hSw; go_simp <;> with_reducible rfl
     simp only [Act.put, zu0, zu1, zu2]
     refine wq 26 108 (v := ?_) rfl rfl (by kernel_rfl) (fun _ _ _ h => h) (by rfl) ?_ hT0 ?_
     rotate_left
     ·intro w' hSw; go_simp <;> with_reducible rfl
     simp only [Act.put, zu0, zu1, zu2]
     refine wq 27 109 (v := ?_) rfl rfl (by kernel_rfl) (fun _ _ _ h => h) (by rfl) ?_ hT0 ?_
     rotate_left
     ·intro w' hSw; go_simp <;> with_reducible rfl
     simp only [Act.put, zu0, zu1, zu2]
     refine wq 28 4 (v := ?_) rfl rfl (by kernel_rfl) (fun _ _ _ h => h) (by rfl) ?_ hT0 ?_
     rotate_left
     ·intro w' hSw; go_simp <;> with_reducible rfl
     simp only [Act.put, zu0, zu1, zu2]
     refine wpAnyH_done (by kernel_rfl) ?_ _
     have hbl := below_next HB.out (Nat.le_refl _) hT0.1
     clear hT0 hkeep
     go_wp2_with fail
     go_ret
     exact ⟨rfl, hbl⟩
    ·have v0 : (z != 0) = true := by simpa using h0
     obtain ⟨o2, hrst, hdd⟩ := HG.out
     rw [if_neg (by rw [HZ.out]; exact h0)] at hdd
     injection hdd with h1 h2 h3 h4 h5
     subst h1 h2 h3 h4 h5
     obtain rfl : yn = 0 := HL9.out.symm
     go_wp2_with fail
     refine (dsame_at 0 0 0 [] [] yA 0 yc rfl (by decide) 0 0 0 [] [] none 0 0 rfl (by decide) w10 RY.out (.inl rfl) true rfl).mono ?_
     rintro e w11 ⟨rfl, hb⟩
     replace HB := Lib.hid (below_next HB.out (Nat.le_refl _) hb)
     go_wp2_with fail
     go_ret
     exact ⟨rfl, HB.out⟩
/-! ### The row's step. -/
namespace deedBack
theorem own : ownKnob Tryz.prog.godebug = none := by kernel_rfl
theorem laidOut : laidOutB Tryz.prog = true := by kernel_rfl
set_option linter.unusedVariables false in
theorem lifted (os : Os) (started : os.Started) (H : Type) (enc : TypeId × Value -> H) :
  ReturnsInHanded {} Tryz.checked os 7 .any (Rows.deedBackSpec.pre6 enc Tryz.prog Tryz.f7 Rows.deedBackRow.domain false) (Rows.deedBackSpec.post enc Tryz.prog Tryz.f7 false true false false) := by
 refine returnsInHanded_of_change_sized (C := Tryz.checked) own started (by kernel_rfl) Tryz.func7
  (ChangeSpec.witness6 (enc := enc) (C := Tryz.checked) false ⟨#[], #[.agg #[.int .i64 0, .int .i64 0, .int .i64 0, .string ⟨#[]⟩, .slice none 0 0], .slice none 0 0], []⟩ 8 (by kernel_rfl) (by kernel_rfl) (by kernel_rfl) (by kernel_rfl)) ?_
 intro W base args ds gs before hval0 hW hcnd hsz0 _
 have hval : ∀ (j : Nat) t v, Tryz.f7.params[j]? = some t -> args[j]? = some v -> Value.okWide Tryz.prog W .any base t v := hval0
 have hsz : (DataW.weightsEach Tryz.prog (Tryz.f7.params.toList ++ Rows.deedBackSpec.plain.varTypes Tryz.prog) (ds ++ gs)).all (· <= reachBytes) = true := hsz0
 have hW' := hW
 obtain ⟨p, q, hA0, hV, rfl, hfz, hnd⟩ := hW
 have hA : DataW.TrodAll enc Tryz.prog W 0 (fun _ => true) true Tryz.f7.params.toList args.toList ds p := hA0
 rw [Tryz.params7] at hA hval hsz
 obtain ⟨v0, vs0, d0, ds0, p0, q0, hargs, rfl, rfl, h0, r0⟩ := trodAll_cons hA
 obtain ⟨v1, vs1, d1, ds1, p1, q1, rfl, rfl, rfl, h1, r1⟩ := trodAll_cons r0
 obtain ⟨rfl, rfl, rfl⟩ := trodAll_nil r1
 obtain rfl : args = #[v0, v1] := by cases args; simp_all
 obtain ⟨rfl, rfl⟩ := trodVars_none hV
 obtain ⟨x0, rfl, fx0, bx0⟩ := open_deed (hval 0 44 v0 rfl rfl) h0 (fun n hn => by simpa using List.all_eq_true.1 hsz n (DataW.weights_mem_each (j := 0) rfl rfl n hn))
 have k0 := h0
 have lt0 : ∀ x ∈ p0, x.block < W.heap.size := by obtain ⟨m, hm⟩ := k0; exact DataW.trod_lt m _ _ _ hm
 obtain ⟨a1, len1, cap1, rfl⟩ := okWide_slice Tryz.underlying24 (hval 1 24 v1 rfl rfl)
 have k1 := h1
 have lt1 : ∀ x ∈ p1, x.block < W.heap.size := by obtain ⟨m, hm⟩ := k1; exact DataW.trod_lt m _ _ _ hm
 obtain ⟨bs1, hl1, hc1, hm1, rd1⟩ : ∃ bs : List UInt8, bs.length = len1 /\ len1 <= cap1 /\ cap1 <= 140737488351232 /\ Rd W a1 bs := by
  obtain ⟨fuel, hf⟩ := h1
  rcases open_ints Tryz.underlying24 Tryz.underlying5 (by kernel_rfl) hf with ⟨hcs, _⟩ | ⟨x, l, c, zs, hcs, _, hl, hm, hz, hx, hcell, hwz⟩
  ·simp [Value.cells] at hcs
   obtain ⟨rfl, rfl, rfl⟩ := hcs
   exact ⟨[], rfl, by omega, by omega, .inl rfl⟩
  ·simp [Value.cells] at hcs
   obtain ⟨rfl, rfl, rfl⟩ := hcs
   have hz' : zs.length = cap1 := by simpa using hz
   have hd : d1 = .slice (lits .u8 (zs.take len1)) (lits .u8 (zs.drop len1)) := congrArg Prod.fst hx
   have hb := sized_slice hsz (j := 1) (t := 24) (elems := lits .u8 (zs.take len1)) (spare := lits .u8 (zs.drop len1)) rfl (by rw [hd]; rfl) Tryz.underlying24
   have hb' : cap1 <= 140737488351232 := by
    rw [show Tryz.prog.bytesOf 5 = 1 from by kernel_rfl] at hb
    simp [lits, reachBytes] at hb; omega
   obtain ⟨bs, e1, e2⟩ := rd_of_ints hl hz' hcell hwz
   exact ⟨bs, e1, hl, hb', e2⟩
 clear hA0 hval0
 refine (walk_DeedBack W x0 fx0 bx0 a1 bs1 len1 cap1 hl1 hc1 hm1 rd1).mono fun e W' ⟨he, bel⟩ => ?_
 subst he
 exact ⟨_, rfl, _, _, _, [], _, [], hW', trodAll_mk1 (shut_bool Tryz.underlying4 _), (trodAll_cons_mk (Below.trod laidOut (by kernel_rfl) (of_decide_eq_true (by kernel_rfl)) k0 bel lt0) (trodAll_cons_mk (Below.trod laidOut (by kernel_rfl) (of_decide_eq_true (by kernel_rfl)) k1 bel lt1) trodAll_mk0)), rfl, bel.frame _, fun h => by cases h⟩
theorem over : Rows.deedBackRow.holds Tryz.pinned (OpenSpec.ofChange Rows.deedBackSpec) :=
 OpenClaim.holds_of_wide 7 Tryz.f7 rfl rfl rfl rfl rfl rfl rfl ⟨rfl, rfl, rfl, rfl, rfl⟩ rfl rfl rfl rfl rfl (by kernel_rfl) Tryz.func7 (by kernel_rfl)
  (of_decide_eq_true (by kernel_rfl)) (by unfold Func.isWrapper; first | (rw [if_pos (by decide +kernel)]; kernel_rfl) | (rw [if_neg (by decide +kernel)]; exact ⟨rfl, rfl⟩))
  (fun os started H enc _ => lifted os started H enc)
end deedBack
theorem deedBack_holds : Rows.DeedBackSaid := deedBack.over
#print axioms deedBack_holds
end Go.Proofs.YtaglnncihmohfaaGreat
