/- Contracts of the program and of the document (RGet), each used further on. -/
import Derived.Test.YtoffnfooeojhnaaGreatD3
import Derived.Test.YtoffnfooeojhnaaGreatN1
import Derived.Test.YtoffnfooeojhnaaGreatF3
set_option maxRecDepth 100000
set_option maxHeartbeats 4000000
namespace Go.Proofs.YtoffnfooeojhnaaGreat
open Go.RowKit Go.Sort Spans Op
theorem rds_fine {s : Wire.St} (h : s.fine) : ∀ k, (rdsS k s).fine
 | 0 => h
 | k + 1 => Preds.getS_fine (rds_fine h k)
theorem nameS_err {s : Wire.St} (h : s.err ≠ 0) : (Preds.nameS s).err = s.err := by
 unfold Preds.nameS
 split
 ·rw [Preds.fail_stuck _ _ (by rw [Preds.textS_err h]; exact h), Preds.textS_err h]
 ·exact Preds.textS_err h 16
theorem getS_err {s : Wire.St} (h : s.err ≠ 0) : (Preds.getS s).err = s.err := by
 have h1 : (Preds.behind s).err = s.err := by
  unfold Preds.behind
  rw [Preds.opS_err (by rw [nameS_err h]; exact h), nameS_err h]
 unfold Preds.getS
 split
 ·exact h1
 ·rw [Preds.sideS_err (by rw [h1]; exact h), h1]
theorem getS_stuck {s : Wire.St} (h : s.fine) (he : s.err ≠ 0) : Preds.getS s = s := by
 have h1 : (Preds.getS s).err = s.err := getS_err he
 have h2 := Preds.getS_fine h (by rw [h1]; exact he)
 have h3 := h he
 cases hg : Preds.getS s with
 | mk r e =>
  rw [hg] at h1 h2
  cases s with
  | mk r' e' =>
   dsimp only at h1 h2 h3
   rw [h1, h2, h3]
theorem rds_stuck {s : Wire.St} (h : s.fine) {k : Nat} (he : (rdsS k s).err ≠ 0) : ∀ j, rdsS (k + j) s = rdsS k s
 | 0 => rfl
 | j + 1 => by
  have ih := rds_stuck h he j
  show Preds.getS (rdsS (k + j) s) = _
  rw [ih]
  exact getS_stuck (rds_fine h k) he
theorem rds_end {s : Wire.St} (h : s.fine) {k n : Nat} (hk : k <= n) (he : (rdsS k s).err ≠ 0) : rdsS n s = rdsS k s := by
 have := rds_stuck h he (n - k)
 rwa [show k + (n - k) = n by omega] at this
theorem get_err {s : Wire.St} (h : (GetR s).err ≠ 0) : GetIs s [] (GetR s) := by
 by_cases hn : Fil.NormIs (GetF s) (GetF s) 0
 ·exact ⟨.inl ⟨hn, rfl⟩, (if_neg h).symm⟩
 ·exact ⟨.inr ⟨hn, (Preds.fail_stuck _ _ h).symm⟩, (if_neg h).symm⟩
theorem refFail_blk (w : World) (g : Nat) (A : Option Addr) (n cap : Nat) (hB : Blk w g 43 #[.slice A n cap, .int .i64 0]) (z : Int) (hz : z ≠ 0) :
  Calls Tryz.prog 66 #[.pointer (some ⟨g, 0, none⟩), .int .i64 z] w fun e w' => e = .returned (.tuple #[]) /\ Sc w' g 43 ⟨[], z⟩ /\ Touch g w w' := by
 obtain ⟨c0, c1, f0, f1⟩ := blk2 hB
 have hd : (z == 0) = false := by simpa using hz
 go_enter Tryz.func66, Tryz.ntmps66
 go_wp2
 go_end0
 refine ⟨rfl, ?_, ((Touch.refl _ _).set_ _ _).set_ _ _⟩
 exact ⟨none, 0, 0, (hB.put 1 (.int .i64 z)).put 0 (.slice none 0 0), rfl, by omega, by omega, .inl rfl, fun a h => by cases h⟩
theorem refNum_nil (w : World) (g : Nat) (A : Option Addr) (cap : Nat) (hB : Blk w g 43 #[.slice A 0 cap, .int .i64 0]) :
  Calls Tryz.prog 102 #[.pointer (some ⟨g, 0, none⟩)] w (Reads w g 43 (.int .u64 0) (Wire.St.mk [] 0).numS) := by
 obtain ⟨c0, c1, f0, f1⟩ := blk2 hB
 have hgl := hB.lt
 have HB := Lib.hid hB
 clear hB
 go_enter Tryz.func102, Tryz.ntmps102
 go_wp2_with fail
 go_loop [3, 4, 5] (fun x u i => x = .int .u64 0 /\ u = .int .u64 1 /\ i = .int .i64 0) (fun _ _ i => 10 - (intOf i).toNat)
 case atStart => exact ⟨rfl, rfl, rfl⟩
 case round =>
  obtain ⟨rfl, rfl, rfl⟩ := hrel
  go_wp2_with fail
  refine (refFail_blk w g A 0 cap HB.out _ (by decide)).mono ?_
  rintro e w1 ⟨rfl, hs1, ht1⟩
  go_wp2_with fail
  go_ret
  exact ⟨rfl, hs1, ht1⟩
theorem refUpto_nil (w : World) (g : Nat) (A : Option Addr) (cap : Nat) (hB : Blk w g 43 #[.slice A 0 cap, .int .i64 0]) :
  Calls Tryz.prog 64 #[.pointer (some ⟨g, 0, none⟩), .int .i64 24] w (Reads w g 43 (.int .i64 ((Wire.St.mk [] 0).uptoV 24 : Int)) ((Wire.St.mk [] 0).uptoS 24)) := by
 have hn := refNum_nil w g A cap hB
 have e1 : (Wire.St.mk [] 0).uptoV 24 = 0 := by decide
 have e2 : (Wire.St.mk [] 0).uptoS 24 = (Wire.St.mk [] 0).numS := by rfl
 rw [e1, e2]
 obtain ⟨s1, hs⟩ : ∃ s1, (Wire.St.mk [] 0).numS = s1 := ⟨_, rfl⟩
 have he : s1.err ≠ 0 := by rw [<- hs]; decide
 rw [hs] at hn ⊢
 clear hs e1 e2 hB
 have hd : (s1.err == 0) = false := by simpa using he
 go_enter Tryz.func64, Tryz.ntmps64
 go_wp2_with fail
 refine hn.mono ?_
 rintro e w1 ⟨rfl, hs1, ht1⟩
 have hs0 := hs1
 obtain ⟨A1, n, cap1, hB1, l1, l2, l3, hr⟩ := hs1
 obtain ⟨c0, c1, f0, f1⟩ := blk2 hB1
 clear l1
 go_wp2_with fail
 go_ret
 exact ⟨rfl, hs0, ht1⟩
theorem sc_err {w : World} {g : Nat} {s : Wire.St} {z : Int} (h : Sc w g 43 s) (hz : s.err = z) : w.cell? ⟨g, 1, none⟩ = some (.int .i64 z) /\ w.frozen? ⟨g, 1, none⟩ = false /\ True := by
 subst hz
 obtain ⟨A, n, cap, hB, _⟩ := h
 exact ⟨hB.cell 1, hB.frozen 1, trivial⟩
theorem rfget_from (w : World) (g : Nat) (s : Wire.St) (hgl : g < w.heap.size) (hfi : s.fine) (hu : Calls Tryz.prog 64 #[.pointer (some ⟨g, 0, none⟩), .int .i64 24] w (Reads w g 43 (.int .i64 (s.uptoV 24 : Int)) (s.uptoS 24))) :
  Calls Tryz.prog 27 #[.pointer (some ⟨g, 0, none⟩)] w fun e w' => ∃ f s' A n c, GetIs s f s' /\ e = .returned (.slice A n c) /\ f.length = n /\ n <= 24 /\ n <= c /\ OwnQ w' w.heap.size (.slice A n c) f /\ Sc w' g 43 s' /\ Touch g w w' := by
 obtain ⟨n, hn⟩ : ∃ n, s.uptoV 24 = n := ⟨_, rfl⟩
 obtain ⟨t, ht⟩ : ∃ t, s.uptoS 24 = t := ⟨_, rfl⟩
 have HN := Lib.hid hn
 have HT := Lib.hid ht
 have hn24 : n <= 24 := by rw [<- hn]; exact Preds.upto_le s 24
 have HFT : Hid (t.fine) := by show t.fine; rw [<- ht]; exact Wire.St.uptoS_fine hfi 24
 have HC0 := Lib.hid hu
 rw [hn, ht] at HC0
 clear hu hn ht
 go_enter Tryz.func27, Tryz.ntmps27
 go_wp2_with fail
 refine HC0.out.mono ?_
 rintro e w1 ⟨rfl, hs1, ht1⟩
 have HS1 := Lib.hid hs1
 have HT1 := Lib.hid ht1
 clear hs1 ht1 HC0
 go_wp2_with fail
 go_loopg [4, 5] n (fun gg s4 s5 wr => ∃ (k : Nat), k <= n /\ n - k <= gg /\ s5 = .int .i64 (k : Int) /\ Hid (OwnQ wr w.heap.size s4 (rdsP k t)) /\ Hid (Sc wr g 43 (rdsS k t)) /\ Hid (Touch g w wr))
 case atStart => exact ⟨0, Nat.zero_le _, by omega, rfl, OwnK.none_ _ _, HS1, HT1⟩
 case round =>
  obtain ⟨k, hk, hgg, rfl, HW, HS, HTr⟩ := hrel
  clear HS1 HT1
  obtain ⟨A3, c3, hv3, hc3, hr3⟩ := OwnK.form HW.out (rdsP_len t k)
  subst hv3
  clear hr3
  obtain ⟨z, hz⟩ : ∃ z, (rdsS k t).err = z := ⟨_, rfl⟩
  have HZ := Lib.hid hz
  clear hz
  obtain ⟨b1, b2, b3⟩ := sc_err HS.out HZ.out
  have hgw : g < wr.heap.size := HS.out.lt
  by_cases hlt : k < n
  ·have w5 : (k : Int) < (n : Int) := by omega
   by_cases hz0 : z = 0
   ·subst hz0
    obtain ⟨x, hx⟩ : ∃ x, rdP (rdsS k t) = x := ⟨_, rfl⟩
    have HX := Lib.hid hx
    obtain ⟨xn, xo, xk, xi, xt⟩ := x
    have h1 : Preds.getN (rdsS k t) = xn := congrArg Pr.n hx
    have h2 : Preds.getO (rdsS k t) = xo := congrArg Pr.o hx
    have h3 : Preds.getK (rdsS k t) = xk := congrArg Pr.k hx
    have h4 : Preds.getI (rdsS k t) = xi := congrArg Pr.i hx
    have h5 : Preds.getT (rdsS k t) = xt := congrArg Pr.t hx
    have HC := Lib.hid (fun W hW => rpget_at W g (rdsS k t) hW (rds_fine HFT.out k) xn xo xk xi xt (rdsS (k + 1) t) h1 h2 h3 h4 h5 rfl)
    clear h1 h2 h3 h4 h5 hx
    go_wp2_with fail
    refine (HC.out wr HS.out).mono ?_
    rintro e w2 ⟨rfl, hs2, ht2⟩
    have hW2 := OwnK.touch HW.out ht2 hgl
    have hT2 := HTr.out.trans ht2
    have hsz : w.heap.size <= w2.heap.size := hT2.size
    have hrx := rdk_one layP w2 ⟨xn, xo, xk, xi, xt⟩ 35 (pC xn.toArray xo xk xi xt.toArray) rfl
    have hbb : Below w2.heap.size w2 (w2.alloc (.cells (pC xn.toArray xo xk xi xt.toArray) 35)) := (gr1 w2 _).below
    have hW3 := OwnK.below hW2 hbb
    have hS3 := hs2.below hbb
    have hT3 : Touch g w (w2.alloc (.cells (pC xn.toArray xo xk xi xt.toArray) 35)) := hT2.trans (Touch.of_below hbb)
    have hle := OwnK.base_le hW3
    have hlen := rdsP_len t k
    have HS3 := Lib.hid hS3
    have HT3 := Lib.hid hT3
    have HLE := Lib.hid hle
    clear hs2 ht2 hW2 hT2 hbb hS3 hT3 hle HW HS HTr HC b1 b2 b3 hgw
    obtain ⟨lk, hlk⟩ : ∃ l, rdsP k t = l := ⟨_, rfl⟩
    have HLK := Lib.hid hlk
    rw [hlk] at hW3 hlen
    clear hlk
    go_wp2_with (at_builtin; refine wpList_append_k layP (by rfl) (.tmp 20) (.tmp 23) 22 underQ rfl w.heap.size _ lk (by rfl) hW3 _ [⟨xn, xo, xk, xi, xt⟩] 1 1 (by rfl) hrx rfl (by rw [maxLen_num]; omega) (by show (lk.length + 1) * 56 <= _; omega) (by simp; omega) ?_; intro v6 w6 ho6 hB6 hg6 hl6)
    have HS6 : Hid (Sc w6 g 43 (rdsS (k + 1) t)) := HS3.out.behind (b := w.heap.size) hg6 HLE.out hgl
    have HT6 : Hid (Touch g w w6) := ⟨hg6.os.trans HT3.out.os, hg6.tape.trans HT3.out.tape, hg6.output.trans HT3.out.output, Nat.le_trans HT3.out.size hg6.size, fun i hi hne => (hg6.block i (Nat.lt_of_lt_of_le hi HT3.out.size) (fun e => by have := HLE.out i e.symm; omega)).trans (HT3.out.block i hi hne)⟩
    have HW6 : Hid (OwnQ w6 w.heap.size v6 (rdsP (k + 1) t)) := by
     show OwnK _ _ _ _ _
     rw [rdsP, HLK.out, HX.out]
     exact ho6
    clear hB6 hg6 hl6 ho6 hrx hW3 HS3 HT3 HLE
    go_wp2_with fail
    go_roundg (n - (k + 1))
    case measure => omega
    case rel => exact ⟨k + 1, by omega, Nat.le_refl _, by go_num, HW6, HS6, HT6⟩
   ·skip
    have HE : Hid ((GetR s).err ≠ 0 /\ GetR s = rdsS k t) := by
     have h1 : rdsS n t = rdsS k t := rds_end HFT.out hk (by rw [HZ.out]; exact hz0)
     have h2 : GetR s = rdsS k t := by unfold GetR; rw [HN.out, HT.out, h1]
     exact ⟨by rw [h2, HZ.out]; exact hz0, h2⟩
    have v1 : (z == 0) = false := beq_eq_false_iff_ne.2 hz0
    have v2 : (z != 0) = true := by simpa using hz0
    go_wp2_with fail
    go_ret
    have hG := get_err HE.out.1
    rw [HE.out.2] at hG
    exact ⟨_, _, none, 0, 0, hG, rfl, rfl, by omega, Nat.le_refl _, OwnK.none_ _ _, HS.out, HTr.out⟩
  ·have hkn : k = n := by omega
   subst hkn
   by_cases hz0 : z = 0
   ·subst hz0
    have HF : Hid (GetF s = rdsP k t) := by show _ = _; unfold GetF; rw [HN.out, HT.out]
    have HR : Hid (GetR s = rdsS k t) := by show _ = _; unfold GetR; rw [HN.out, HT.out]
    have HLN := Lib.hid (rdsP_len t k)
    have hr3 := rdk_own' HW.out
    obtain ⟨q, hq⟩ : ∃ q : Bool, q = true ↔ Fil.NormIs (rdsP k t) (rdsP k t) 0 := by
     by_cases h : Fil.NormIs (rdsP k t) (rdsP k t) 0
     ·exact ⟨true, by simp [h]⟩
     ·exact ⟨false, by simp [h]⟩
    have HQ := Lib.hid hq
    clear hq
    go_wp2_with fail
    refine (rfright_at A3 (rdsP k t) k c3 HLN.out (by omega) (rdsP_bd t k) wr hr3 q HQ.out).mono ?_
    rintro e w2 ⟨rfl, hb2⟩
    have HW2 := Lib.hid (OwnK.below HW.out hb2)
    have HS2 := Lib.hid (HS.out.below hb2)
    have HT2 := Lib.hid (HTr.out.trans (Touch.of_below hb2))
    clear hb2 hr3 HW HS HTr b1 b2 b3 hgw
    cases q with
    | true =>
     have HG : Hid (GetIs s (if (GetR s).err = 0 then GetF s else []) (GetR s)) := ⟨.inl ⟨by rw [HF.out]; exact HQ.out.1 rfl, rfl⟩, rfl⟩
     obtain ⟨b1, b2, b3⟩ := sc_err HS2.out HZ.out
     have hgw : g < w2.heap.size := HS2.out.lt
     go_wp2_with fail
     go_ret
     have hG := HG.out
     rw [HR.out, if_pos HZ.out, HF.out] at hG
     exact ⟨_, _, A3, k, c3, hG, rfl, HLN.out, hn24, hc3, HW2.out, HS2.out, HT2.out⟩
    | false =>
     have HG : Hid (GetIs s (if ((GetR s).fail 3).err = 0 then GetF s else []) ((GetR s).fail 3)) := ⟨.inr ⟨by rw [HF.out]; exact fun h => (by have := HQ.out.2 h; cases this), rfl⟩, rfl⟩
     go_wp2_with fail
     refine (refFail_at w2 g _ HS2.out (rds_fine HFT.out k) 3).mono ?_
     rintro e w3 ⟨rfl, hs3, ht3⟩
     have HS3 := Lib.hid hs3
     have HT3 := Lib.hid (HT2.out.trans ht3)
     clear hs3 ht3
     obtain ⟨y, hy⟩ : ∃ y, ((rdsS k t).fail 3).err = y := ⟨_, rfl⟩
     have hyn : y ≠ 0 := by rw [<- hy]; exact Preds.fail_err _ 3 (by decide)
     have HY := Lib.hid hy
     clear hy
     obtain ⟨b1, b2, b3⟩ := sc_err HS3.out HY.out
     have hgw : g < w3.heap.size := HS3.out.lt
     have v1 : (y != 0) = true := by simpa using hyn
     have HYN := Lib.hid hyn
     clear hyn
     go_wp2_with fail
     go_ret
     have hG := HG.out
     rw [HR.out, if_neg (by rw [HY.out]; exact HYN.out)] at hG
     exact ⟨_, _, none, 0, 0, hG, rfl, rfl, by omega, Nat.le_refl _, OwnK.none_ _ _, HS3.out, HT3.out⟩
   ·skip
    have HE : Hid ((GetR s).err ≠ 0 /\ GetR s = rdsS k t) := by
     have h1 : rdsS k t = rdsS k t := rfl
     have h2 : GetR s = rdsS k t := by unfold GetR; rw [HN.out, HT.out, h1]
     exact ⟨by rw [h2, HZ.out]; exact hz0, h2⟩
    have v1 : (z == 0) = false := beq_eq_false_iff_ne.2 hz0
    have v2 : (z != 0) = true := by simpa using hz0
    go_wp2_with fail
    go_ret
    have hG := get_err HE.out.1
    rw [HE.out.2] at hG
    exact ⟨_, _, none, 0, 0, hG, rfl, rfl, by omega, Nat.le_refl _, OwnK.none_ _ _, HS.out, HTr.out⟩
theorem rfget_at (w : World) (g : Nat) (s : Wire.St) (h : Sc w g 43 s) (hfi : s.fine) :
  Calls Tryz.prog 27 #[.pointer (some ⟨g, 0, none⟩)] w fun e w' => ∃ f s' A n c, GetIs s f s' /\ e = .returned (.slice A n c) /\ f.length = n /\ n <= 24 /\ n <= c /\ OwnQ w' w.heap.size (.slice A n c) f /\ Sc w' g 43 s' /\ Touch g w w' :=
 rfget_from w g s h.lt hfi (refUpto_at w g s h hfi 24 (by decide) (by decide))
theorem rfget_nil (w : World) (g : Nat) (A : Option Addr) (cap : Nat) (hB : Blk w g 43 #[.slice A 0 cap, .int .i64 0]) :
  Calls Tryz.prog 27 #[.pointer (some ⟨g, 0, none⟩)] w fun e w' => ∃ f s' A n c, GetIs ⟨[], 0⟩ f s' /\ e = .returned (.slice A n c) /\ f.length = n /\ n <= 24 /\ n <= c /\ OwnQ w' w.heap.size (.slice A n c) f /\ Sc w' g 43 s' /\ Touch g w w' :=
 rfget_from w g ⟨[], 0⟩ hB.lt (fun h => absurd rfl h) (refUpto_nil w g A cap hB)
theorem get_fine {s s' : Wire.St} {f : List Pr} (h : GetIs s f s') (hs : s.fine) : s'.fine := by
 have h1 : (GetR s).fine := rds_fine (Wire.St.uptoS_fine hs 24) _
 rcases h.1 with ⟨_, e⟩ | ⟨_, e⟩
 ·rw [e]; exact h1
 ·rw [e]; exact Wire.St.fail_fine h1 3
end Go.Proofs.YtoffnfooeojhnaaGreat
