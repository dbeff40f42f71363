/- Contracts of the program and of the document (RGet, DRGet), each used further on. -/
import Derived.Test.YtckabmlilbkmbaaGreatD3
import Derived.Test.YtckabmlilbkmbaaGreatX7
import Derived.Test.YtckabmlilbkmbaaGreatN2
import Derived.Test.YtckabmlilbkmbaaGreatN3
import Derived.Test.YtckabmlilbkmbaaGreatF3
set_option maxRecDepth 100000
set_option maxHeartbeats 4000000
namespace Go.Proofs.YtckabmlilbkmbaaGreat
section
open Go.RowKit Go.Sort Spans Op
theorem rds_fine {s : Wire.St} (h : s.fine) : ∀ k, (rdsS k s).fine
 | 0 => h
 | k + 1 => Preds.getS_fine (rds_fine h k)
theorem nameS_err {s : Wire.St} (h : s.err ≠ 0) : (Preds.nameS s).err = s.err := by
 unfold Preds.nameS
 split
 ·rw [Preds.fail_stuck _ _ (by rw [Preds.textS_err h]; exact h), Preds.textS_err h]
 ·exact Preds.textS_err h 16
theorem getS_err {s : Wire.St} (h : s.err ≠ 0) : (Preds.getS s).err = s.err := by
 have h1 : (Preds.behind s).err = s.err := by
  unfold Preds.behind
  rw [Preds.opS_err (by rw [nameS_err h]; exact h), nameS_err h]
 unfold Preds.getS
 split
 ·exact h1
 ·rw [Preds.sideS_err (by rw [h1]; exact h), h1]
theorem getS_stuck {s : Wire.St} (h : s.fine) (he : s.err ≠ 0) : Preds.getS s = s := by
 have h1 : (Preds.getS s).err = s.err := getS_err he
 have h2 := Preds.getS_fine h (by rw [h1]; exact he)
 have h3 := h he
 cases hg : Preds.getS s with
 | mk r e =>
  rw [hg] at h1 h2
  cases s with
  | mk r' e' =>
   dsimp only at h1 h2 h3
   rw [h1, h2, h3]
theorem rds_stuck {s : Wire.St} (h : s.fine) {k : Nat} (he : (rdsS k s).err ≠ 0) : ∀ j, rdsS (k + j) s = rdsS k s
 | 0 => rfl
 | j + 1 => by
  have ih := rds_stuck h he j
  show Preds.getS (rdsS (k + j) s) = _
  rw [ih]
  exact getS_stuck (rds_fine h k) he
theorem rds_end {s : Wire.St} (h : s.fine) {k n : Nat} (hk : k <= n) (he : (rdsS k s).err ≠ 0) : rdsS n s = rdsS k s := by
 have := rds_stuck h he (n - k)
 rwa [show k + (n - k) = n by omega] at this
theorem get_err {s : Wire.St} (h : (GetR s).err ≠ 0) : GetIs s [] (GetR s) := by
 by_cases hn : Fil.NormIs (GetF s) (GetF s) 0
 ·exact ⟨.inl ⟨hn, rfl⟩, (if_neg h).symm⟩
 ·exact ⟨.inr ⟨hn, (Preds.fail_stuck _ _ h).symm⟩, (if_neg h).symm⟩
theorem refFail_blk (w : World) (g : Nat) (A : OA) (n cap : Nat) (hB : Blk w g 55 #[.slice A n cap, .int .i64 0]) (z : Int) (hz : z ≠ 0) :
  Calls Tryz.prog 86 #[.pointer (some ⟨g, 0, none⟩), .int .i64 z] w fun e w' => e = .returned (.tuple #[]) /\ Sc w' g 55 ⟨[], z⟩ /\ Touch g w w' := by
 obtain ⟨c0, c1, f0, f1⟩ := blk2 hB
 have hd : (z == 0) = false := by simpa using hz
 go_enter Tryz.func86, Tryz.ntmps86
 go_wp2
 go_end0
 refine ⟨rfl, ?_, ((Touch.refl _ _).set_ _ _).set_ _ _⟩
 exact ⟨none, 0, 0, (hB.put 1 (.int .i64 z)).put 0 (.slice none 0 0), rfl, by omega, by omega, .inl rfl, fun a h => by cases h⟩
theorem refNum_nil (w : World) (g : Nat) (A : OA) (cap : Nat) (hB : Blk w g 55 #[.slice A 0 cap, .int .i64 0]) :
  Calls Tryz.prog 112 #[.pointer (some ⟨g, 0, none⟩)] w (Reads w g 55 (.int .u64 0) (Wire.St.mk [] 0).numS) := by
 obtain ⟨c0, c1, f0, f1⟩ := blk2 hB
 have hgl := hB.lt
 have HB := Jh hB
 clear hB
 go_enter Tryz.func112, Tryz.ntmps112
 go_wp2_with fail
 go_loop [3, 4, 5] (fun x u i => x = .int .u64 0 /\ u = .int .u64 1 /\ i = .int .i64 0) (fun _ _ i => 10 - (intOf i).toNat)
 case atStart => exact ⟨rfl, rfl, rfl⟩
 case round =>
  obtain ⟨rfl, rfl, rfl⟩ := hrel
  go_wp2_with fail
  refine (refFail_blk w g A 0 cap HB.o _ (by decide)).mono ?_
  rintro e w1 ⟨rfl, hs1, ht1⟩
  go_wp2_with fail
  go_ret
  exact ⟨rfl, hs1, ht1⟩
theorem sc_err {w : World} {g : Nat} {s : Wire.St} {z : Int} (h : Sc w g 55 s) (hz : s.err = z) : w.cell? ⟨g, 1, none⟩ = some (.int .i64 z) /\ w.frozen? ⟨g, 1, none⟩ = false /\ True := by
 subst hz
 obtain ⟨A, n, cap, hB, _⟩ := h
 exact ⟨hB.cell 1, hB.frozen 1, trivial⟩
theorem rfget_from (w : World) (g : Nat) (s : Wire.St) (hgl : g < w.heap.size) (hfi : s.fine) (hu : Calls Tryz.prog 85 #[.pointer (some ⟨g, 0, none⟩), .int .i64 24] w (Reads w g 55 (.int .i64 (s.uptoV 24 : Int)) (s.uptoS 24))) :
  Calls Tryz.prog 53 #[.pointer (some ⟨g, 0, none⟩)] w fun e w' => ∃ f s' A n c, GetIs s f s' /\ e = .returned (.slice A n c) /\ f.length = n /\ n <= 24 /\ n <= c /\ OwnQ w' w.heap.size (.slice A n c) f /\ Sc w' g 55 s' /\ Touch g w w' := by
 obtain ⟨n, hn⟩ : ∃ n, s.uptoV 24 = n := ⟨_, rfl⟩
 obtain ⟨t, ht⟩ : ∃ t, s.uptoS 24 = t := ⟨_, rfl⟩
 have HN := Jh hn
 have HT := Jh ht
 have hn24 : n <= 24 := by rw [<- hn]; exact Preds.upto_le s 24
 have HFT : Hid (t.fine) := by show t.fine; rw [<- ht]; exact Wire.St.uptoS_fine hfi 24
 have HC0 := Jh hu
 rw [hn, ht] at HC0
 clear hu hn ht
 go_enter Tryz.func53, Tryz.ntmps53
 go_wp2_with fail
 refine HC0.o.mono ?_
 rintro e w1 ⟨rfl, hs1, ht1⟩
 have HS1 := Jh hs1
 have HT1 := Jh ht1
 clear hs1 ht1 HC0
 go_wp2_with fail
 go_loopg [4, 5] n (fun gg s4 s5 wr => ∃ (k : Nat), k <= n /\ n - k <= gg /\ s5 = .int .i64 (k : Int) /\ Hid (OwnQ wr w.heap.size s4 (rdsP k t)) /\ Hid (Sc wr g 55 (rdsS k t)) /\ Hid (Touch g w wr))
 case atStart => exact ⟨0, Nat.zero_le _, by omega, rfl, OwnK.none_ _ _, HS1, HT1⟩
 case round =>
  obtain ⟨k, hk, hgg, rfl, HW, HS, HTr⟩ := hrel
  clear HS1 HT1
  obtain ⟨A3, c3, hv3, hc3, hr3⟩ := OwnK.form HW.o (rdsP_len t k)
  subst hv3
  clear hr3
  obtain ⟨z, hz⟩ : ∃ z, (rdsS k t).err = z := ⟨_, rfl⟩
  have HZ := Jh hz
  clear hz
  obtain ⟨b1, b2, b3⟩ := sc_err HS.o HZ.o
  have hgw : g < wr.heap.size := HS.o.lt
  by_cases hlt : k < n
  ·have w5 : (k : Int) < (n : Int) := by omega
   by_cases hz0 : z = 0
   ·subst hz0
    obtain ⟨x, hx⟩ : ∃ x, rdP (rdsS k t) = x := ⟨_, rfl⟩
    have HX := Jh hx
    obtain ⟨xn, xo, xk, xi, xt⟩ := x
    have h1 : Preds.getN (rdsS k t) = xn := congrArg Pr.n hx
    have h2 : Preds.getO (rdsS k t) = xo := congrArg Pr.o hx
    have h3 : Preds.getK (rdsS k t) = xk := congrArg Pr.k hx
    have h4 : Preds.getI (rdsS k t) = xi := congrArg Pr.i hx
    have h5 : Preds.getT (rdsS k t) = xt := congrArg Pr.t hx
    have HC := Jh (fun W hW => rpget_at W g (rdsS k t) hW (rds_fine HFT.o k) xn xo xk xi xt (rdsS (k + 1) t) h1 h2 h3 h4 h5 rfl)
    clear h1 h2 h3 h4 h5 hx
    go_wp2_with fail
    refine (HC.o wr HS.o).mono ?_
    rintro e w2 ⟨rfl, hs2, ht2⟩
    have hW2 := OwnK.touch HW.o ht2 hgl
    have hT2 := HTr.o.trans ht2
    have hsz : w.heap.size <= w2.heap.size := hT2.size
    have hrx := rdk_one layP w2 ⟨xn, xo, xk, xi, xt⟩ 64 (pC xn.toArray xo xk xi xt.toArray) rfl
    have hbb : Below w2.heap.size w2 (w2.alloc (.cells (pC xn.toArray xo xk xi xt.toArray) 64)) := (gr1 w2 _).below
    have hW3 := OwnK.below hW2 hbb
    have hS3 := hs2.below hbb
    have hT3 : Touch g w (w2.alloc (.cells (pC xn.toArray xo xk xi xt.toArray) 64)) := hT2.trans (Touch.of_below hbb)
    have hle := OwnK.base_le hW3
    have hlen := rdsP_len t k
    have HS3 := Jh hS3
    have HT3 := Jh hT3
    have HLE := Jh hle
    clear hs2 ht2 hW2 hT2 hbb hS3 hT3 hle HW HS HTr HC b1 b2 b3 hgw
    obtain ⟨lk, hlk⟩ : ∃ l, rdsP k t = l := ⟨_, rfl⟩
    have HLK := Jh hlk
    rw [hlk] at hW3 hlen
    clear hlk
    go_wp2_with (at_builtin; refine wpList_append_k layP (by rfl) (.tmp 20) (.tmp 23) 26 underQ rfl w.heap.size _ lk (by rfl) hW3 _ [⟨xn, xo, xk, xi, xt⟩] 1 1 (by rfl) hrx rfl (by rw [maxLen_num]; omega) (by show (lk.length + 1) * 56 <= _; omega) (by simp; omega) ?_; intro v6 w6 ho6 hB6 hg6 hl6)
    have HS6 : Hid (Sc w6 g 55 (rdsS (k + 1) t)) := HS3.o.behind (b := w.heap.size) hg6 HLE.o hgl
    have HT6 : Hid (Touch g w w6) := ⟨hg6.os.trans HT3.o.os, hg6.tape.trans HT3.o.tape, hg6.output.trans HT3.o.output, Nat.le_trans HT3.o.size hg6.size, fun i hi hne => (hg6.block i (Nat.lt_of_lt_of_le hi HT3.o.size) (fun e => by have := HLE.o i e.symm; omega)).trans (HT3.o.block i hi hne)⟩
    have HW6 : Hid (OwnQ w6 w.heap.size v6 (rdsP (k + 1) t)) := by
     show OwnK _ _ _ _ _
     rw [rdsP, HLK.o, HX.o]
     exact ho6
    clear hB6 hg6 hl6 ho6 hrx hW3 HS3 HT3 HLE
    go_wp2_with fail
    go_roundg (n - (k + 1))
    case measure => omega
    case rel => exact ⟨k + 1, by omega, Jn, by go_num, HW6, HS6, HT6⟩
   ·skip
    have HE : Hid ((GetR s).err ≠ 0 /\ GetR s = rdsS k t) := by
     have h1 : rdsS n t = rdsS k t := rds_end HFT.o hk (by rw [HZ.o]; exact hz0)
     have h2 : GetR s = rdsS k t := by unfold GetR; rw [HN.o, HT.o, h1]
     exact ⟨by rw [h2, HZ.o]; exact hz0, h2⟩
    have v1 : (z == 0) = false := beq_eq_false_iff_ne.2 hz0
    have v2 : (z != 0) = true := by simpa using hz0
    go_wp2_with fail
    go_ret
    have hG := get_err HE.o.1
    rw [HE.o.2] at hG
    exact ⟨_, _, none, 0, 0, hG, rfl, rfl, by omega, Jn, OwnK.none_ _ _, HS.o, HTr.o⟩
  ·have hkn : k = n := by omega
   subst hkn
   by_cases hz0 : z = 0
   ·subst hz0
    have HF : Hid (GetF s = rdsP k t) := by show _ = _; unfold GetF; rw [HN.o, HT.o]
    have HR : Hid (GetR s = rdsS k t) := by show _ = _; unfold GetR; rw [HN.o, HT.o]
    have HLN := Jh (rdsP_len t k)
    have hr3 := rdk_own' HW.o
    obtain ⟨q, hq⟩ : ∃ q : Bool, q = true ↔ Fil.NormIs (rdsP k t) (rdsP k t) 0 := by
     by_cases h : Fil.NormIs (rdsP k t) (rdsP k t) 0
     ·exact ⟨true, by simp [h]⟩
     ·exact ⟨false, by simp [h]⟩
    have HQ := Jh hq
    clear hq
    go_wp2_with fail
    refine (rfright_at A3 (rdsP k t) k c3 HLN.o (by omega) (rdsP_bd t k) wr hr3 q HQ.o).mono ?_
    rintro e w2 ⟨rfl, hb2⟩
    have HW2 := Jh (OwnK.below HW.o hb2)
    have HS2 := Jh (HS.o.below hb2)
    have HT2 := Jh (HTr.o.trans (Touch.of_below hb2))
    clear hb2 hr3 HW HS HTr b1 b2 b3 hgw
    cases q with
    | true =>
     have HG : Hid (GetIs s (if (GetR s).err = 0 then GetF s else []) (GetR s)) := ⟨.inl ⟨by rw [HF.o]; exact HQ.o.1 rfl, rfl⟩, rfl⟩
     obtain ⟨b1, b2, b3⟩ := sc_err HS2.o HZ.o
     have hgw : g < w2.heap.size := HS2.o.lt
     go_wp2_with fail
     go_ret
     have hG := HG.o
     rw [HR.o, if_pos HZ.o, HF.o] at hG
     exact ⟨_, _, A3, k, c3, hG, rfl, HLN.o, hn24, hc3, HW2.o, HS2.o, HT2.o⟩
    | false =>
     have HG : Hid (GetIs s (if ((GetR s).fail 3).err = 0 then GetF s else []) ((GetR s).fail 3)) := ⟨.inr ⟨by rw [HF.o]; exact fun h => (by have := HQ.o.2 h; cases this), rfl⟩, rfl⟩
     go_wp2_with fail
     refine (refFail_at w2 g _ HS2.o (rds_fine HFT.o k) 3).mono ?_
     rintro e w3 ⟨rfl, hs3, ht3⟩
     have HS3 := Jh hs3
     have HT3 := Jh (HT2.o.trans ht3)
     clear hs3 ht3
     obtain ⟨y, hy⟩ : ∃ y, ((rdsS k t).fail 3).err = y := ⟨_, rfl⟩
     have hyn : y ≠ 0 := by rw [<- hy]; exact Preds.fail_err _ 3 (by decide)
     have HY := Jh hy
     clear hy
     obtain ⟨b1, b2, b3⟩ := sc_err HS3.o HY.o
     have hgw : g < w3.heap.size := HS3.o.lt
     have v1 : (y != 0) = true := by simpa using hyn
     have HYN := Jh hyn
     clear hyn
     go_wp2_with fail
     go_ret
     have hG := HG.o
     rw [HR.o, if_neg (by rw [HY.o]; exact HYN.o)] at hG
     exact ⟨_, _, none, 0, 0, hG, rfl, rfl, by omega, Jn, OwnK.none_ _ _, HS3.o, HT3.o⟩
   ·skip
    have HE : Hid ((GetR s).err ≠ 0 /\ GetR s = rdsS k t) := by
     have h1 : rdsS k t = rdsS k t := rfl
     have h2 : GetR s = rdsS k t := by unfold GetR; rw [HN.o, HT.o, h1]
     exact ⟨by rw [h2, HZ.o]; exact hz0, h2⟩
    have v1 : (z == 0) = false := beq_eq_false_iff_ne.2 hz0
    have v2 : (z != 0) = true := by simpa using hz0
    go_wp2_with fail
    go_ret
    have hG := get_err HE.o.1
    rw [HE.o.2] at hG
    exact ⟨_, _, none, 0, 0, hG, rfl, rfl, by omega, Jn, OwnK.none_ _ _, HS.o, HTr.o⟩
theorem rfget_at (w : World) (g : Nat) (s : Wire.St) (h : Sc w g 55 s) (hfi : s.fine) :
  Calls Tryz.prog 53 #[.pointer (some ⟨g, 0, none⟩)] w fun e w' => ∃ f s' A n c, GetIs s f s' /\ e = .returned (.slice A n c) /\ f.length = n /\ n <= 24 /\ n <= c /\ OwnQ w' w.heap.size (.slice A n c) f /\ Sc w' g 55 s' /\ Touch g w w' :=
 rfget_from w g s h.lt hfi (refUpto_at w g s h hfi 24 (by decide) (by decide))
theorem get_fine {s s' : Wire.St} {f : List Pr} (h : GetIs s f s') (hs : s.fine) : s'.fine := by
 have h1 : (GetR s).fine := rds_fine (Wire.St.uptoS_fine hs 24) _
 rcases h.1 with ⟨_, e⟩ | ⟨_, e⟩
 ·rw [e]; exact h1
 ·rw [e]; exact Wire.St.fail_fine h1 3
end
section
open Go.RowKit Go.Sort Spans Tb Dm
theorem someS_fine {s : Wire.St} (h : s.fine) (m : Int) : (someS s m).fine := by
 unfold someS
 split
 ·exact Wire.St.fail_fine (Wire.St.uptoS_fine h m) 3
 ·exact Wire.St.uptoS_fine h m
theorem refText_is (w : World) (g : Nat) (s s' : Wire.St) (v : LU) (h : Sc w g 55 s) (hfi : s.fine) (m : Int) (hm1 : -9223372036854775808 <= m) (hm2 : m <= 9223372036854775807) (hv : s.textV m = v) (hs : s.textS m = s') :
  Calls Tryz.prog 52 #[.pointer (some ⟨g, 0, none⟩), .int .i64 m] w (Reads w g 55 (.string ⟨v.toArray⟩) s') := by
 subst hv; subst hs; exact refText_at w g s h hfi m hm1 hm2
structure DGr (w wx : World) (g q : Nat) (st : Wire.St) (k i r : Int) (t : LU) (A : OA) (n c : Nat) (f : List Pr) : Prop where
 sc : Sc wx g 55 st
 z : Blk wx w.heap.size 28 #[.int .i64 0, .int .i64 0, .int .i64 0, .string ⟨#[]⟩, .slice none 0 0]
 b : Blk wx q 28 #[.int .i64 k, .int .i64 i, .int .i64 r, .string ⟨t.toArray⟩, .slice A n c]
 ow : OwnQ wx (q + 1) (.slice A n c) f
 tc : Touch g w wx
 h1 : g < w.heap.size
 h2 : w.heap.size < q
theorem DGr.step {w wx : World} {g q : Nat} {st : Wire.St} {k i r : Int} {t : LU} {A : OA} {n c : Nat} {f : List Pr} (h : DGr w wx g q st k i r t A n c f) {w' : World} {st' : Wire.St} (hs : Sc w' g 55 st') (ht : Touch g wx w') : DGr w w' g q st' k i r t A n c f :=
 have := h.h1; have := h.h2
 ⟨hs, ht.blk h.z (by omega), ht.blk h.b (by omega), OwnK.touch h.ow ht (by omega), h.tc.trans ht, h.h1, h.h2⟩
theorem DGr.set_ {w wx : World} {g q : Nat} {st : Wire.St} {k i r : Int} {t : LU} {A : OA} {n c : Nat} {f : List Pr} (h : DGr w wx g q st k i r t A n c f) (j : Nat) (u : Value) (k' i' r' : Int) (t' : LU) (A' : OA) (n' c' : Nat) (f' : List Pr)
  (hc : #[.int .i64 k, .int .i64 i, .int .i64 r, .string ⟨t.toArray⟩, .slice A n c].setIfInBounds j u = #[.int .i64 k', .int .i64 i', .int .i64 r', .string ⟨t'.toArray⟩, .slice A' n' c']) (ho : OwnQ wx (q + 1) (.slice A' n' c') f') : DGr w (wx.setCell ⟨q, j, none⟩ u) g q st k' i' r' t' A' n' c' f' :=
 have := h.h1; have := h.h2
 ⟨h.sc.farN h.b (noByteD _ _ _ _ _ _ _) (by omega) j u, h.z.far (p := ⟨q, j, none⟩) (by show w.heap.size ≠ q; omega) u, by have hb := h.b.put j u; rwa [hc] at hb, ho.set_ (by omega) j u, h.tc.new_ (by omega), h.h1, h.h2⟩
theorem rsome_from (w : World) (g : Nat) (s s' : Wire.St) (v : Nat) (m : Int) (hfi : s.fine) (hu : Calls Tryz.prog 85 #[.pointer (some ⟨g, 0, none⟩), .int .i64 m] w (Reads w g 55 (.int .i64 (v : Int)) (s.uptoS m))) (hv : s.uptoV m = v) (hs : someS s m = s') :
  Calls Tryz.prog 51 #[.pointer (some ⟨g, 0, none⟩), .int .i64 m] w (Reads w g 55 (.int .i64 (v : Int)) s') := by
 have HS := Jh hs
 have HV := Jh hv
 have HU := Jh hu
 have HF : Hid ((s.uptoS m).fine) := Wire.St.uptoS_fine hfi m
 clear hs hv hu
 go_enter Tryz.func51, Tryz.ntmps51
 go_wp2_with fail
 refine HU.o.mono ?_
 rintro e w1 ⟨rfl, h1, hT1⟩
 have H1 := Jh h1
 have HT1 := Jh hT1
 clear h1 hT1
 by_cases h0 : v = 0
 ·subst h0
  have hE : Hid ((s.uptoS m).fail 3 = s') := by show _ = _; rw [<- HS.o]; unfold someS; rw [if_pos HV.o]
  go_wp2_with fail
  refine (refFail_at w1 g _ H1.o HF.o 3).mono ?_
  rintro e w2 ⟨rfl, h2, hT2⟩
  have H2 := Jh h2
  have HT2 := Jh (HT1.o.trans hT2)
  clear h2 hT2
  go_wp2_with fail
  go_ret
  exact ⟨rfl, hE.o ▸ H2.o, HT2.o⟩
 ·have hE : Hid (s.uptoS m = s') := by show _ = _; rw [<- HS.o]; unfold someS; rw [if_neg (by rw [HV.o]; exact h0)]
  have hd : ((v : Int) == 0) = false := beq_eq_false_iff_ne.2 (by omega)
  go_wp2_with fail
  go_ret
  exact ⟨rfl, hE.o ▸ H1.o, HT1.o⟩
theorem rsome_is (w : World) (g : Nat) (s s' : Wire.St) (v : Nat) (h : Sc w g 55 s) (hfi : s.fine) (m : Int) (hm1 : -9223372036854775808 <= m) (hm2 : m <= 9223372036854775807) (hv : s.uptoV m = v) (hs : someS s m = s') :
  Calls Tryz.prog 51 #[.pointer (some ⟨g, 0, none⟩), .int .i64 m] w (Reads w g 55 (.int .i64 (v : Int)) s') :=
 rsome_from w g s s' v m hfi (refUpto_is w g s _ v h hfi m hm1 hm2 hv rfl) hv hs
def RGetD (w : World) (g : Nat) (s : Wire.St) (e : Ending) (w' : World) : Prop := ∃ (d : Dd) (s' : Wire.St) (A : OA) (n c : Nat), DGet s d s' /\ e = .returned (dV d A n c) /\ d.f.length = n /\ n <= 24 /\ n <= c /\ OwnQ w' w.heap.size (.slice A n c) d.f /\ Sc w' g 55 s' /\ Touch g w w'
theorem rdget_from (w : World) (g : Nat) (s : Wire.St) (hgl : g < w.heap.size) (hfi : s.fine) (hu : ∀ w', Below w.heap.size w w' -> Calls Tryz.prog 85 #[.pointer (some ⟨g, 0, none⟩), .int .i64 6] w' (Reads w' g 55 (.int .i64 (s.uptoV 6 : Int)) (s.uptoS 6))) :
  Calls Tryz.prog 23 #[.pointer (some ⟨g, 0, none⟩)] w (RGetD w g s) := by
 have FS := Jh hfi
 have HU0 := Jh hu
 clear hfi hu
 have hb0 := (gr1 w (.cells #[.int .i64 0, .int .i64 0, .int .i64 0, .string ⟨#[]⟩, .slice none 0 0] 28)).below
 have H0 := Jh hb0
 have HZ := Jh (Blk.new w 28 #[.int .i64 0, .int .i64 0, .int .i64 0, .string ⟨#[]⟩, .slice none 0 0])
 have HT0 : Hid (Touch g w (w.alloc (.cells #[.int .i64 0, .int .i64 0, .int .i64 0, .string ⟨#[]⟩, .slice none 0 0] 28))) := Touch.of_below hb0
 obtain ⟨k, hk⟩ : ∃ x, Hid (s.uptoV 6 = x) := ⟨_, rfl⟩
 obtain ⟨s1, es1⟩ : ∃ x, Hid (someS s 6 = x) := ⟨_, rfl⟩
 obtain ⟨i, hi⟩ : ∃ x, Hid (s1.uptoV 1073741824 = x) := ⟨_, rfl⟩
 obtain ⟨t2, es2⟩ : ∃ x, Hid (someS s1 1073741824 = x) := ⟨_, rfl⟩
 have HS2 : Hid (s2 s = t2) := by show _ = _; unfold s2; rw [es1.o, es2.o]
 have HI : Hid ((someS s 6).uptoV 1073741824 = i) := by show _ = _; rw [es1.o, hi.o]
 have F1 : Hid (s1.fine) := by show s1.fine; rw [<- es1.o]; exact someS_fine FS.o 6
 have F2 : Hid (t2.fine) := by show t2.fine; rw [<- es2.o]; exact someS_fine F1.o _
 clear hb0
 go_enter Tryz.func23, Tryz.ntmps23
 go_wp2_with fail
 generalize w.alloc (.cells #[.int .i64 0, .int .i64 0, .int .i64 0, .string ⟨#[]⟩, .slice none 0 0] 28) = w0 at *
 refine (rsome_from w0 g s s1 k 6 FS.o (by rw [<- hk.o]; exact HU0.o w0 H0.o) hk.o es1.o).mono ?_
 rintro e w1 ⟨rfl, h1, hT1⟩
 have hb2 := (gr1 w1 (.cells #[.int .i64 (k : Int), .int .i64 0, .int .i64 0, .string ⟨#[]⟩, .slice none 0 0] 28)).below
 have hZ1 := hT1.blk HZ.o (by omega)
 have P := Jh (DGr.mk (w := w) (t := []) (h1.below hb2) (hZ1.below hb2 hZ1.lt) (Blk.new w1 28 #[.int .i64 (k : Int), .int .i64 0, .int .i64 0, .string ⟨#[]⟩, .slice none 0 0]) (OwnK.none_ _ _) ((HT0.o.trans hT1).trans (Touch.of_below hb2)) hgl hZ1.lt)
 clear h1 hT1 hb2 hZ1 H0 HZ HT0
 go_wp2_with fail
 generalize w1.heap.size = q at *
 generalize w1.alloc (.cells #[.int .i64 (k : Int), .int .i64 0, .int .i64 0, .string ⟨#[]⟩, .slice none 0 0] 28) = w2 at *
 refine (rsome_is w2 g s1 t2 i P.o.sc F1.o 1073741824 (by decide) (by decide) hi.o es2.o).mono ?_
 rintro e w3 ⟨rfl, h3, hT3⟩
 have P3 := Jh (P.o.step h3 hT3)
 clear h3 hT3 P es1 es2 hi
 have hqg : q ≠ g := by have := P3.o.h1; have := P3.o.h2; omega
 obtain ⟨d0, d1, d2, d3, d4, c0, c1, c2, c3, c4⟩ := blk5 P3.o.b
 have P4 := Jh (P3.o.set_ 1 (.int .i64 (i : Int)) k i 0 [] none 0 0 [] rfl P3.o.ow)
 clear P3
 go_upto_block 0 with fail
 clear d0 d1 d2 d3 d4 c0 c1 c2 c3 c4
 generalize w3.setCell ⟨q, 1, none⟩ (.int .i64 (i : Int)) = w4 at *
 go_cut [] from 4 (fun wx => ∃ (r : Int) (t : LU) (A : OA) (n c : Nat) (f : List Pr) (s' : Wire.St), n <= 24 /\ n <= c /\ Hid (f.length = n) /\ Hid (DGr w wx g q s' k i r t A n c f) /\ Hid (DRest s ⟨k, i, r, t, f⟩ s'))
 case first =>
  obtain ⟨d0, d1, d2, d3, d4, c0, c1, c2, c3, c4⟩ := blk5 P4.o.b
  by_cases hk1 : k = 1
  ·subst hk1
   obtain ⟨t, ht⟩ : ∃ x, Hid (t2.textV 32 = x) := ⟨_, rfl⟩
   obtain ⟨t3, es3⟩ : ∃ x, Hid (t2.textS 32 = x) := ⟨_, rfl⟩
   go_wp2_with fail
   refine (refText_is w4 g t2 t3 t P4.o.sc F2.o 32 (by decide) (by decide) ht.o es3.o).mono ?_
   rintro e w5 ⟨rfl, h5, hT5⟩
   have P5 := Jh (P4.o.step h5 hT5)
   clear h5 hT5 P4 d0 d1 d2 d3 d4 c0 c1 c2 c3 c4
   obtain ⟨d0, d1, d2, d3, d4, c0, c1, c2, c3, c4⟩ := blk5 P5.o.b
   have P6 := Jh (P5.o.set_ 3 (.string ⟨t.toArray⟩) (1 : Nat) i 0 t none 0 0 [] rfl P5.o.ow)
   clear P5
   go_wp2_with fail
   go_meet
   case rel => exact ⟨0, t, none, 0, 0, [], t3, by omega, Jn, rfl, P6, by rw [hk.o], by rw [HI.o], .inl ⟨rfl, rfl, rfl, by rw [HS2.o]; exact ht.o.symm, by rw [HS2.o]; exact es3.o.symm⟩⟩
  ·have hkd : ((k : Int) == 1) = false := beq_eq_false_iff_ne.2 (by omega)
   by_cases hk3 : k = 3
   ·skip
    subst hk3
    obtain ⟨r, hr⟩ : ∃ x, Hid (t2.uptoV 1073741824 = x) := ⟨_, rfl⟩
    obtain ⟨t3, es3⟩ : ∃ x, Hid (someS t2 1073741824 = x) := ⟨_, rfl⟩
    go_wp2_with fail
    refine (rsome_is w4 g t2 t3 r P4.o.sc F2.o 1073741824 (by decide) (by decide) hr.o es3.o).mono ?_
    rintro e w5 ⟨rfl, h5, hT5⟩
    have P5 := Jh (P4.o.step h5 hT5)
    have F3 : Hid (t3.fine) := by show t3.fine; rw [<- es3.o]; exact someS_fine F2.o _
    clear h5 hT5 P4 d0 d1 d2 d3 d4 c0 c1 c2 c3 c4
    obtain ⟨d0, d1, d2, d3, d4, c0, c1, c2, c3, c4⟩ := blk5 P5.o.b
    have P6 := Jh (P5.o.set_ 2 (.int .i64 (r : Int)) (3 : Nat) i r [] none 0 0 [] rfl P5.o.ow)
    clear P5
    go_wp2_with fail
    clear d0 d1 d2 d3 d4 c0 c1 c2 c3 c4
    generalize w5.setCell ⟨q, 2, none⟩ (.int .i64 (r : Int)) = w6 at *
    refine (rfget_at w6 g t3 P6.o.sc F3.o).mono ?_
    rintro e w7 ⟨f, s', A, n, c, hgi, rfl, hfn, hn24, hnc, hof, h7, hT7⟩
    have P7 := Jh (P6.o.step h7 hT7)
    have HGI := Jh hgi
    have HFN := Jh hfn
    have hq6 : q + 1 <= w6.heap.size := P6.o.b.lt
    clear h7 hT7 P6 hgi hfn
    obtain ⟨d0, d1, d2, d3, d4, c0, c1, c2, c3, c4⟩ := blk5 P7.o.b
    have P8 := Jh (P7.o.set_ 4 (.slice A n c) (3 : Nat) i r [] A n c f rfl (hof.less hq6))
    clear P7 hof
    go_wp2_with fail
    go_meet
    case rel => exact ⟨r, [], A, n, c, f, s', hn24, hnc, HFN, P8, by rw [hk.o], by rw [HI.o], .inr (.inl ⟨.inl rfl, rfl, by rw [HS2.o, hr.o], by rw [HS2.o, es3.o]; exact HGI.o⟩)⟩
   have hkd3 : ((k : Int) == 3) = false := beq_eq_false_iff_ne.2 (by omega)
   by_cases hk5 : k = 5
   ·have hk3 := hk5
    subst hk3
    obtain ⟨r, hr⟩ : ∃ x, Hid (t2.uptoV 1073741824 = x) := ⟨_, rfl⟩
    obtain ⟨t3, es3⟩ : ∃ x, Hid (someS t2 1073741824 = x) := ⟨_, rfl⟩
    go_wp2_with fail
    refine (rsome_is w4 g t2 t3 r P4.o.sc F2.o 1073741824 (by decide) (by decide) hr.o es3.o).mono ?_
    rintro e w5 ⟨rfl, h5, hT5⟩
    have P5 := Jh (P4.o.step h5 hT5)
    have F3 : Hid (t3.fine) := by show t3.fine; rw [<- es3.o]; exact someS_fine F2.o _
    clear h5 hT5 P4 d0 d1 d2 d3 d4 c0 c1 c2 c3 c4
    obtain ⟨d0, d1, d2, d3, d4, c0, c1, c2, c3, c4⟩ := blk5 P5.o.b
    have P6 := Jh (P5.o.set_ 2 (.int .i64 (r : Int)) (5 : Nat) i r [] none 0 0 [] rfl P5.o.ow)
    clear P5
    go_wp2_with fail
    clear d0 d1 d2 d3 d4 c0 c1 c2 c3 c4
    generalize w5.setCell ⟨q, 2, none⟩ (.int .i64 (r : Int)) = w6 at *
    refine (rfget_at w6 g t3 P6.o.sc F3.o).mono ?_
    rintro e w7 ⟨f, s', A, n, c, hgi, rfl, hfn, hn24, hnc, hof, h7, hT7⟩
    have P7 := Jh (P6.o.step h7 hT7)
    have HGI := Jh hgi
    have HFN := Jh hfn
    have hq6 : q + 1 <= w6.heap.size := P6.o.b.lt
    clear h7 hT7 P6 hgi hfn
    obtain ⟨d0, d1, d2, d3, d4, c0, c1, c2, c3, c4⟩ := blk5 P7.o.b
    have P8 := Jh (P7.o.set_ 4 (.slice A n c) (5 : Nat) i r [] A n c f rfl (hof.less hq6))
    clear P7 hof
    go_wp2_with fail
    go_meet
    case rel => exact ⟨r, [], A, n, c, f, s', hn24, hnc, HFN, P8, by rw [hk.o], by rw [HI.o], .inr (.inl ⟨.inr rfl, rfl, by rw [HS2.o, hr.o], by rw [HS2.o, es3.o]; exact HGI.o⟩)⟩
   have hkd5 : ((k : Int) == 5) = false := beq_eq_false_iff_ne.2 (by omega)
   go_wp2_with fail
   go_meet
   case rel => exact ⟨0, [], none, 0, 0, [], t2, by omega, Jn, rfl, P4, by rw [hk.o], by rw [HI.o], .inr (.inr ⟨by show (k : Int) ≠ 1; omega, fun h => by unfold Ent at h; dsimp only at h; omega, rfl, rfl, rfl, HS2.o.symm⟩)⟩
 case rest =>
  obtain ⟨r, t, A, n, c, f, s', hn24, hnc, HFN, P, HR⟩ := hcut
  clear P4 HS2 HI hk
  obtain ⟨z, hz⟩ : ∃ x, Hid (s'.err = x) := ⟨_, rfl⟩
  obtain ⟨b1, b2, _⟩ := sc_err P.o.sc hz.o
  obtain ⟨d0, d1, d2, d3, d4, c0, c1, c2, c3, c4⟩ := blk5 P.o.b
  obtain ⟨z0, z1, z2, z3, z4, q0, q1, q2, q3, q4⟩ := blk5 P.o.z
  have hqp : q ≠ w.heap.size := by have := P.o.h2; omega
  by_cases he : z = 0
  ·subst he
   have hlo := P.o.h2
   have hgp : g ≠ w.heap.size := by have := P.o.h1; omega
   go_wp2_with fail
   refine bodyPost_ret (v := dV ⟨k, i, r, t, f⟩ A n c) (by simp [dV, results, Tryz.results23, go_sem, z0, z1, z2, z3, z4]) rfl ?_
   exact ⟨⟨k, i, r, t, f⟩, s', A, n, c, ⟨_, HR.o, by rw [if_pos hz.o]⟩, rfl, HFN.o, hn24, hnc, (P.o.ow.put5 (by omega) _ _ _ _ _).less (by omega), P.o.sc.put5 P.o.z (noByteD _ _ _ _ _ _ _) hgp _ _ _ _ _ _ _, (((((P.o.tc.new_ (Jn)).new_ (Jn)).new_ (Jn)).new_ (Jn)).new_ (Jn))⟩
  ·have v0 : (z != 0) = true := by simpa using he
   have hgp : g ≠ w.heap.size := by have := P.o.h1; omega
   go_wp2_with fail
   refine bodyPost_ret (v := dV zeroD none 0 0) (by simp [dV, zeroD, results, Tryz.results23, go_sem, z0, z1, z2, z3, z4]) rfl ?_
   exact ⟨zeroD, s', none, 0, 0, ⟨_, HR.o, by rw [if_neg (by rw [hz.o]; exact he)]⟩, rfl, rfl, by omega, Jn, OwnK.none_ _ _, P.o.sc.put5 P.o.z (noByteD _ _ _ _ _ _ _) hgp _ _ _ _ _ _ _, (((((P.o.tc.new_ (Jn)).new_ (Jn)).new_ (Jn)).new_ (Jn)).new_ (Jn))⟩
theorem rdget_at (w : World) (g : Nat) (s : Wire.St) (h : Sc w g 55 s) (hfi : s.fine) :
  Calls Tryz.prog 23 #[.pointer (some ⟨g, 0, none⟩)] w (RGetD w g s) :=
 rdget_from w g s h.lt hfi fun w' hb => refUpto_is w' g s _ _ (h.below hb) hfi 6 (by decide) (by decide) rfl rfl
end
end Go.Proofs.YtckabmlilbkmbaaGreat
