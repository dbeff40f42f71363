/- The document's own answer for layer 6: Get. -/
import Derived.Test.YtcmjekchfgnbdaaPGet
import Derived.Test.YtcmjekchfgnbdaaVRefGet
namespace Go.Proofs.Ytcmjekchfgnbdaa
open Go.RowKit
set_option maxRecDepth 100000 in
set_option maxHeartbeats 3200000 in
theorem rpget_n8 (w : World) (g : Nat) (s : Wire.St) (h : Sc w g 40 s) (hfi : s.fine) (N : List UInt8) (O K I : Int) (Tx : List UInt8) (s' : Wire.St) (hN : Preds.getN s = N) (hO : Preds.getO s = O) (hK : Preds.getK s = K) (hI : Preds.getI s = I) (hTx : Preds.getT s = Tx) (hs' : Preds.getS s = s') (hE : s.textV 16 ≠ []) (hv : Preds.rawO s = 8) :
    Calls Try.prog 20 #[.pointer (some ⟨g, 0, none⟩)] w (Reads w g 40 (.agg #[.string ⟨N.toArray⟩, .int .i64 O, .int .i64 K, .int .i64 I, .string ⟨Tx.toArray⟩]) s') := by
  have HV8 : Hid ((Preds.nameS s).uptoV 8 = 8) := hv
  have eN : Hid (Preds.nameS s = s.textS 16) := by show _ = _; unfold Preds.nameS; rw [if_neg hE]
  have eO : Hid (Preds.behind s = (Preds.nameS s).uptoS 8) := by show _ = _; unfold Preds.behind Preds.opS; rw [HV8.out]; rfl
  have eS : Hid (Preds.getS s = Preds.behind s) := by show _ = _; unfold Preds.getS; rw [hv]; rfl
  have HG : Hid ((Preds.behind s).err = 0 → s.textV 16 = N ∧ 8 = O ∧ 0 = K ∧ 0 = I ∧ [] = Tx) := fun hz => by
    have hz' : (Preds.getS s).err = 0 := by rw [eS.out]; exact hz
    obtain ⟨g1, g2, g3, g4, g5⟩ := Preds.get_good s hz'
    refine ⟨g1.symm.trans hN, ?_, ?_, ?_, ?_⟩
    · rw [← hO, g2, hv]; rfl
    · rw [← hK, g3]; unfold Preds.rawK; rw [hv]; rfl
    · rw [← hI, g4]; unfold Preds.rawI; rw [hv]; rfl
    · rw [← hTx, g5]; unfold Preds.rawT; rw [hv]; rfl
  have HBD : Hid ((Preds.behind s).err ≠ 0 → [] = N ∧ 0 = O ∧ 0 = K ∧ 0 = I ∧ [] = Tx) := fun hz => by
    have hz' : (Preds.getS s).err ≠ 0 := by rw [eS.out]; exact hz
    obtain ⟨g1, g2, g3, g4, g5⟩ := Preds.get_bad s hz'
    exact ⟨g1.symm.trans hN, g2.symm.trans hO, g3.symm.trans hK, g4.symm.trans hI, g5.symm.trans hTx⟩
  obtain rfl := eS.out.symm.trans hs'
  have fN := Lib.hid (Preds.nameS_fine hfi)
  have fO : Hid ((Preds.behind s).fine) := Preds.opS_fine (Preds.nameS_fine hfi)
  have fT := Lib.hid (Wire.St.textS_fine hfi 16)
  have fU := Lib.hid (Wire.St.uptoS_fine fN.out 8)
  have fV := Lib.hid (Vals.getS_fine fO.out)
  have hx := fun w0 h0 => refText_at w0 g s h0 hfi 16 (by decide) (by decide)
  have hd0 : (s.textV 16 == []) = false := by simpa using hE
  clear hv hN hO hK hI hTx hs' eS hE
  have hg := h.lt
  obtain ⟨hB, hb0⟩ := box5 w 25 (.string ⟨#[]⟩) (.int .i64 0) (.int .i64 0) (.int .i64 0) (.string ⟨#[]⟩)
  have h0 := h.below hb0
  go_enter Try.func20, Try.ntmps20
  go_wp2_with fail
  generalize w.alloc (.cells #[.string ⟨#[]⟩, .int .i64 0, .int .i64 0, .int .i64 0, .string ⟨#[]⟩] 25) = w0 at *
  refine (hx w0 h0).mono ?_
  rintro e w1 ⟨rfl, h1, hT1⟩
  have hR1 := hT1.blk hB (by omega)
  have hT1w := (Touch.of_below (g := g) hb0).trans hT1
  clear h h0 hB hb0 hT1 hx
  generalize s.textV 16 = nm at *
  go_wp2_with fail
  obtain ⟨hC2, hb2⟩ := box5 w1 25 (.string ⟨nm.toArray⟩) (.int .i64 0) (.int .i64 0) (.int .i64 0) (.string ⟨#[]⟩)
  have hgw1 : w.heap.size ≤ w1.heap.size := hT1w.size
  have hne : w.heap.size ≠ w1.heap.size := by have := hR1.lt; omega
  have hgv : g ≠ w1.heap.size := by omega
  have h2 := h1.below hb2
  have hR2 := hR1.below hb2 hR1.lt
  have hT2w := hT1w.trans (Touch.of_below (g := g) hb2)
  clear h1 hR1 hT1w hb2
  generalize w1.heap.size = gc at *
  generalize w1.alloc (.cells #[.string ⟨nm.toArray⟩, .int .i64 0, .int .i64 0, .int .i64 0, .string ⟨#[]⟩] 25) = w2 at *
  replace h2 : Sc w2 g 40 (Preds.nameS s) := by rw [eN.out]; exact h2
  refine (refUpto_is w2 g (Preds.nameS s) _ 8 h2 fN.out 8 (by decide) (by decide) HV8.out rfl).mono ?_
  rintro e w3 ⟨rfl, h3, hT3⟩
  have hC3 := hT3.blk hC2 (by omega)
  have hR3 := hT3.blk hR2 (by omega)
  have hT3w := hT2w.trans hT3
  clear hC2 hR2 hT2w hT3 h2
  replace h3 : Sc w3 g 40 (Preds.behind s) := by rw [eO.out]; exact h3
  obtain ⟨d0, d1, d2, d3, d4, f0, f1, f2, f3, f4⟩ := blk5 hC3
  have hC4 := hC3.put 1 (.int .i64 8)
  simp only [List.setIfInBounds_toArray, List.set_cons_zero, List.set_cons_succ] at hC4
  have h4 := h3.farN hC3 (noByte5 _ _ _ _ _) hgv 1 (.int .i64 8)
  have hT4w := hT3w.new_ (j := 1) (v := .int .i64 8) hgw1
  have hR4 := hR3.far (p := ⟨gc, 1, none⟩) hne (.int .i64 8)
  clear hT3w h3
  obtain ⟨A', n', cap', hG, hG'⟩ := h4
  have h4 := Sc.intro hG hG'
  obtain ⟨_, s1, _, _⟩ := blk2 hG
  obtain ⟨r0, r1, r2, r3, r4, k0, k1, k2, k3, k4⟩ := blk5 hR4
  obtain ⟨x0, x1, x2, x3, x4, _, _, _, _, _⟩ := blk5 hC4
  clear hC4
  clear hG hG'
  by_cases hz : (Preds.behind s).err = 0
  · have HZ : Hid ((Preds.behind s).err = 0) := hz
    rw [hz] at s1
    obtain ⟨HN', rfl, rfl, rfl, rfl⟩ := HG.out hz
    subst HN'
    clear hz HG HBD
    go_wp2_with fail
    refine bodyPost_ret (v := .agg #[.string ⟨nm.toArray⟩, .int .i64 8, .int .i64 0, .int .i64 0, .string ⟨#[]⟩]) (by simp [results, Try.results20, go_sem, r0, r1, r2, r3, r4]) rfl ?_
    exact ⟨rfl, h4.setP_ hR4 (noByte5 _ _ _ _ _) (by omega) _ _ _ _ _, hT4w.setP_ (Nat.le_refl _) _ _ _ _ _⟩
  · have HZ : Hid ((Preds.behind s).err ≠ 0) := hz
    have hd : (((Preds.behind s).err) != 0) = true := by simpa using hz
    obtain ⟨rfl, rfl, rfl, rfl, rfl⟩ := HBD.out hz
    clear hz HG HBD
    go_wp2_with fail
    refine bodyPost_ret (v := .agg #[.string ⟨#[]⟩, .int .i64 0, .int .i64 0, .int .i64 0, .string ⟨#[]⟩]) (by simp [results, Try.results20, go_sem, r0, r1, r2, r3, r4]) rfl ?_
    exact ⟨rfl, h4.setP_ hR4 (noByte5 _ _ _ _ _) (by omega) _ _ _ _ _, hT4w.setP_ (Nat.le_refl _) _ _ _ _ _⟩
set_option maxRecDepth 100000 in
set_option maxHeartbeats 3200000 in
theorem rpget_n0long (w : World) (g : Nat) (s : Wire.St) (h : Sc w g 40 s) (hfi : s.fine) (N : List UInt8) (O K I : Int) (Tx : List UInt8) (s' : Wire.St) (hN : Preds.getN s = N) (hO : Preds.getO s = O) (hK : Preds.getK s = K) (hI : Preds.getI s = I) (hTx : Preds.getT s = Tx) (hs' : Preds.getS s = s') (hE : s.textV 16 ≠ []) (hv : Preds.rawO s = 0) (K0 I0 : Int) (T0 : List UInt8) (hK0 : Vals.getK (Preds.behind s) = K0) (hI0 : Vals.getI (Preds.behind s) = I0) (hT0 : Vals.getT (Preds.behind s) = T0) (hl : T0.length ≤ 64) (hc : 32 < T0.length) :
    Calls Try.prog 20 #[.pointer (some ⟨g, 0, none⟩)] w (Reads w g 40 (.agg #[.string ⟨N.toArray⟩, .int .i64 O, .int .i64 K, .int .i64 I, .string ⟨Tx.toArray⟩]) s') := by
  have HV8 : Hid ((Preds.nameS s).uptoV 8 = 0) := hv
  have eN : Hid (Preds.nameS s = s.textS 16) := by show _ = _; unfold Preds.nameS; rw [if_neg hE]
  have eO : Hid (Preds.behind s = ((Preds.nameS s).uptoS 8).fail 3) := by show _ = _; unfold Preds.behind Preds.opS; rw [HV8.out]; rfl
  have eS : Hid (Preds.getS s = (Vals.getS (Preds.behind s)).fail 3) := by
    show _ = _
    unfold Preds.getS
    rw [hv, if_neg (by omega)]
    unfold Preds.sideS
    rw [hK0, hT0, if_pos (by unfold Preds.wrong; simp [hc])]
  have HG : Hid (((Vals.getS (Preds.behind s)).fail 3).err = 0 → s.textV 16 = N ∧ 0 = O ∧ K0 = K ∧ I0 = I ∧ T0 = Tx) := fun hz => by
    have hz' : (Preds.getS s).err = 0 := by rw [eS.out]; exact hz
    obtain ⟨g1, g2, g3, g4, g5⟩ := Preds.get_good s hz'
    refine ⟨g1.symm.trans hN, ?_, ?_, ?_, ?_⟩
    · rw [← hO, g2, hv]; rfl
    · rw [← hK, g3]; unfold Preds.rawK; rw [hv]; rw [if_neg (by omega)]; exact hK0.symm
    · rw [← hI, g4]; unfold Preds.rawI; rw [hv]; rw [if_neg (by omega)]; exact hI0.symm
    · rw [← hTx, g5]; unfold Preds.rawT; rw [hv]; rw [if_neg (by omega)]; exact hT0.symm
  have HBD : Hid (((Vals.getS (Preds.behind s)).fail 3).err ≠ 0 → [] = N ∧ 0 = O ∧ 0 = K ∧ 0 = I ∧ [] = Tx) := fun hz => by
    have hz' : (Preds.getS s).err ≠ 0 := by rw [eS.out]; exact hz
    obtain ⟨g1, g2, g3, g4, g5⟩ := Preds.get_bad s hz'
    exact ⟨g1.symm.trans hN, g2.symm.trans hO, g3.symm.trans hK, g4.symm.trans hI, g5.symm.trans hTx⟩
  obtain rfl := eS.out.symm.trans hs'
  have fN := Lib.hid (Preds.nameS_fine hfi)
  have fO : Hid ((Preds.behind s).fine) := Preds.opS_fine (Preds.nameS_fine hfi)
  have fT := Lib.hid (Wire.St.textS_fine hfi 16)
  have fU := Lib.hid (Wire.St.uptoS_fine fN.out 8)
  have fV := Lib.hid (Vals.getS_fine fO.out)
  have hx := fun w0 h0 => refText_at w0 g s h0 hfi 16 (by decide) (by decide)
  have hd0 : (s.textV 16 == []) = false := by simpa using hE
  have HSD := fun w0 h0 => rvget_at w0 g (Preds.behind s) h0 fO.out K0 I0 T0 _ hK0 hI0 hT0 rfl
  have ec : decide ((32 : Int) < (T0.length : Int)) = true := by simp; omega
  clear hK0 hI0 hT0 hc
  clear hv hN hO hK hI hTx hs' eS hE
  have hg := h.lt
  obtain ⟨hB, hb0⟩ := box5 w 25 (.string ⟨#[]⟩) (.int .i64 0) (.int .i64 0) (.int .i64 0) (.string ⟨#[]⟩)
  have h0 := h.below hb0
  go_enter Try.func20, Try.ntmps20
  go_wp2_with fail
  generalize w.alloc (.cells #[.string ⟨#[]⟩, .int .i64 0, .int .i64 0, .int .i64 0, .string ⟨#[]⟩] 25) = w0 at *
  refine (hx w0 h0).mono ?_
  rintro e w1 ⟨rfl, h1, hT1⟩
  have hR1 := hT1.blk hB (by omega)
  have hT1w := (Touch.of_below (g := g) hb0).trans hT1
  clear h h0 hB hb0 hT1 hx
  generalize s.textV 16 = nm at *
  go_wp2_with fail
  obtain ⟨hC2, hb2⟩ := box5 w1 25 (.string ⟨nm.toArray⟩) (.int .i64 0) (.int .i64 0) (.int .i64 0) (.string ⟨#[]⟩)
  have hgw1 : w.heap.size ≤ w1.heap.size := hT1w.size
  have hne : w.heap.size ≠ w1.heap.size := by have := hR1.lt; omega
  have hgv : g ≠ w1.heap.size := by omega
  have h2 := h1.below hb2
  have hR2 := hR1.below hb2 hR1.lt
  have hT2w := hT1w.trans (Touch.of_below (g := g) hb2)
  clear h1 hR1 hT1w hb2
  generalize w1.heap.size = gc at *
  generalize w1.alloc (.cells #[.string ⟨nm.toArray⟩, .int .i64 0, .int .i64 0, .int .i64 0, .string ⟨#[]⟩] 25) = w2 at *
  replace h2 : Sc w2 g 40 (Preds.nameS s) := by rw [eN.out]; exact h2
  refine (refUpto_is w2 g (Preds.nameS s) _ 0 h2 fN.out 8 (by decide) (by decide) HV8.out rfl).mono ?_
  rintro e w3 ⟨rfl, h3, hT3⟩
  have hC3 := hT3.blk hC2 (by omega)
  have hR3 := hT3.blk hR2 (by omega)
  have hT3w := hT2w.trans hT3
  clear hC2 hR2 hT2w hT3 h2
  obtain ⟨d0, d1, d2, d3, d4, f0, f1, f2, f3, f4⟩ := blk5 hC3
  have hC4 := hC3.put 1 (.int .i64 0)
  simp only [List.setIfInBounds_toArray, List.set_cons_zero, List.set_cons_succ] at hC4
  have h4 := h3.farN hC3 (noByte5 _ _ _ _ _) hgv 1 (.int .i64 0)
  have hT4w := hT3w.new_ (j := 1) (v := .int .i64 0) hgw1
  have hR4 := hR3.far (p := ⟨gc, 1, none⟩) hne (.int .i64 0)
  clear hC3 hT3w hR3 h3
  go_wp2_with fail
  clear d0 d1 d2 d3 d4 f0 f1 f2 f3 f4
  generalize w3.setCell ⟨gc, 1, none⟩ (.int .i64 0) = w4 at *
  refine (refFail_at w4 g _ h4 fU.out 3).mono ?_
  rintro e w5 ⟨rfl, h5, hT5⟩
  have hC5 := hT5.blk hC4 (by omega)
  have hR5 := hT5.blk hR4 (by omega)
  have hT5w := hT4w.trans hT5
  clear hC4 hR4 hT4w hT5 h4
  obtain ⟨d0, d1, d2, d3, d4, _, _, _, _, _⟩ := blk5 hC5
  go_wp2_with fail
  clear d0 d1 d2 d3 d4
  replace h5 : Sc w5 g 40 (Preds.behind s) := by rw [eO.out]; exact h5
  refine (HSD w5 h5).mono ?_
  rintro e w6 ⟨rfl, h6, hT6⟩
  have hC6 := hT6.blk hC5 (by omega)
  have hR6 := hT6.blk hR5 (by omega)
  have hT6w := hT5w.trans hT6
  clear hC5 hR5 hT5w hT6 h5
  clear HSD
  obtain ⟨d0, d1, d2, d3, d4, f0, f1, f2, f3, f4⟩ := blk5 hC6
  have hC7 := hC6.setV_ K0 I0 ⟨T0.toArray⟩
  have h7 := h6.setV_ hC6 (noByte5 _ _ _ _ _) hgv K0 I0 ⟨T0.toArray⟩
  have hT7w := hT6w.setV_ hgw1 K0 I0 ⟨T0.toArray⟩
  have hR7 := hR6.farV hne K0 I0 ⟨T0.toArray⟩
  clear hC6 hT6w hR6 h6
  unfold setV at hC7 h7 hT7w hR7
  go_wp2_with fail
  clear d0 d1 d2 d3 d4 f0 f1 f2 f3 f4
  generalize ((w6.setCell ⟨gc, 2, none⟩ (.int .i64 K0)).setCell ⟨gc, 3, none⟩ (.int .i64 I0)).setCell ⟨gc, 4, none⟩ (.string ⟨T0.toArray⟩) = w7 at *
  refine (refFail_at w7 g _ h7 fV.out 3).mono ?_
  rintro e w8 ⟨rfl, h8, hT8⟩
  have hC8 := hT8.blk hC7 (by omega)
  have hR8 := hT8.blk hR7 (by omega)
  have hT8w := hT7w.trans hT8
  clear hC7 hR7 hT7w hT8 h7
  obtain ⟨A', n', cap', hG, hG'⟩ := h8
  have h8 := Sc.intro hG hG'
  obtain ⟨_, s1, _, _⟩ := blk2 hG
  obtain ⟨r0, r1, r2, r3, r4, k0, k1, k2, k3, k4⟩ := blk5 hR8
  obtain ⟨x0, x1, x2, x3, x4, _, _, _, _, _⟩ := blk5 hC8
  clear hC8
  clear hG hG'
  by_cases hz : ((Vals.getS (Preds.behind s)).fail 3).err = 0
  · have HZ : Hid (((Vals.getS (Preds.behind s)).fail 3).err = 0) := hz
    rw [hz] at s1
    obtain ⟨HN', rfl, rfl, rfl, rfl⟩ := HG.out hz
    subst HN'
    clear hz HG HBD
    go_wp2_with fail
    refine bodyPost_ret (v := .agg #[.string ⟨nm.toArray⟩, .int .i64 0, .int .i64 K0, .int .i64 I0, .string ⟨T0.toArray⟩]) (by simp [results, Try.results20, go_sem, r0, r1, r2, r3, r4]) rfl ?_
    exact ⟨rfl, h8.setP_ hR8 (noByte5 _ _ _ _ _) (by omega) _ _ _ _ _, hT8w.setP_ (Nat.le_refl _) _ _ _ _ _⟩
  · have HZ : Hid (((Vals.getS (Preds.behind s)).fail 3).err ≠ 0) := hz
    have hd : ((((Vals.getS (Preds.behind s)).fail 3).err) != 0) = true := by simpa using hz
    obtain ⟨rfl, rfl, rfl, rfl, rfl⟩ := HBD.out hz
    clear hz HG HBD
    go_wp2_with fail
    refine bodyPost_ret (v := .agg #[.string ⟨#[]⟩, .int .i64 0, .int .i64 0, .int .i64 0, .string ⟨#[]⟩]) (by simp [results, Try.results20, go_sem, r0, r1, r2, r3, r4]) rfl ?_
    exact ⟨rfl, h8.setP_ hR8 (noByte5 _ _ _ _ _) (by omega) _ _ _ _ _, hT8w.setP_ (Nat.le_refl _) _ _ _ _ _⟩
set_option maxRecDepth 100000 in
set_option maxHeartbeats 3200000 in
theorem rpget_n0short (w : World) (g : Nat) (s : Wire.St) (h : Sc w g 40 s) (hfi : s.fine) (N : List UInt8) (O K I : Int) (Tx : List UInt8) (s' : Wire.St) (hN : Preds.getN s = N) (hO : Preds.getO s = O) (hK : Preds.getK s = K) (hI : Preds.getI s = I) (hTx : Preds.getT s = Tx) (hs' : Preds.getS s = s') (hE : s.textV 16 ≠ []) (hv : Preds.rawO s = 0) (K0 I0 : Int) (T0 : List UInt8) (hK0 : Vals.getK (Preds.behind s) = K0) (hI0 : Vals.getI (Preds.behind s) = I0) (hT0 : Vals.getT (Preds.behind s) = T0) (hl : T0.length ≤ 64) (hc : T0.length ≤ 32) :
    Calls Try.prog 20 #[.pointer (some ⟨g, 0, none⟩)] w (Reads w g 40 (.agg #[.string ⟨N.toArray⟩, .int .i64 O, .int .i64 K, .int .i64 I, .string ⟨Tx.toArray⟩]) s') := by
  have HV8 : Hid ((Preds.nameS s).uptoV 8 = 0) := hv
  have eN : Hid (Preds.nameS s = s.textS 16) := by show _ = _; unfold Preds.nameS; rw [if_neg hE]
  have eO : Hid (Preds.behind s = ((Preds.nameS s).uptoS 8).fail 3) := by show _ = _; unfold Preds.behind Preds.opS; rw [HV8.out]; rfl
  have eS : Hid (Preds.getS s = Vals.getS (Preds.behind s)) := by
    show _ = _
    unfold Preds.getS
    rw [hv, if_neg (by omega)]
    unfold Preds.sideS
    rw [hK0, hT0, if_neg (by unfold Preds.wrong; simp [hc] <;> omega)]
  have HG : Hid ((Vals.getS (Preds.behind s)).err = 0 → s.textV 16 = N ∧ 0 = O ∧ K0 = K ∧ I0 = I ∧ T0 = Tx) := fun hz => by
    have hz' : (Preds.getS s).err = 0 := by rw [eS.out]; exact hz
    obtain ⟨g1, g2, g3, g4, g5⟩ := Preds.get_good s hz'
    refine ⟨g1.symm.trans hN, ?_, ?_, ?_, ?_⟩
    · rw [← hO, g2, hv]; rfl
    · rw [← hK, g3]; unfold Preds.rawK; rw [hv]; rw [if_neg (by omega)]; exact hK0.symm
    · rw [← hI, g4]; unfold Preds.rawI; rw [hv]; rw [if_neg (by omega)]; exact hI0.symm
    · rw [← hTx, g5]; unfold Preds.rawT; rw [hv]; rw [if_neg (by omega)]; exact hT0.symm
  have HBD : Hid ((Vals.getS (Preds.behind s)).err ≠ 0 → [] = N ∧ 0 = O ∧ 0 = K ∧ 0 = I ∧ [] = Tx) := fun hz => by
    have hz' : (Preds.getS s).err ≠ 0 := by rw [eS.out]; exact hz
    obtain ⟨g1, g2, g3, g4, g5⟩ := Preds.get_bad s hz'
    exact ⟨g1.symm.trans hN, g2.symm.trans hO, g3.symm.trans hK, g4.symm.trans hI, g5.symm.trans hTx⟩
  obtain rfl := eS.out.symm.trans hs'
  have fN := Lib.hid (Preds.nameS_fine hfi)
  have fO : Hid ((Preds.behind s).fine) := Preds.opS_fine (Preds.nameS_fine hfi)
  have fT := Lib.hid (Wire.St.textS_fine hfi 16)
  have fU := Lib.hid (Wire.St.uptoS_fine fN.out 8)
  have fV := Lib.hid (Vals.getS_fine fO.out)
  have hx := fun w0 h0 => refText_at w0 g s h0 hfi 16 (by decide) (by decide)
  have hd0 : (s.textV 16 == []) = false := by simpa using hE
  have HSD := fun w0 h0 => rvget_at w0 g (Preds.behind s) h0 fO.out K0 I0 T0 _ hK0 hI0 hT0 rfl
  have ec : decide ((32 : Int) < (T0.length : Int)) = false := by simp; omega
  clear hK0 hI0 hT0 hc
  clear hv hN hO hK hI hTx hs' eS hE
  have hg := h.lt
  obtain ⟨hB, hb0⟩ := box5 w 25 (.string ⟨#[]⟩) (.int .i64 0) (.int .i64 0) (.int .i64 0) (.string ⟨#[]⟩)
  have h0 := h.below hb0
  go_enter Try.func20, Try.ntmps20
  go_wp2_with fail
  generalize w.alloc (.cells #[.string ⟨#[]⟩, .int .i64 0, .int .i64 0, .int .i64 0, .string ⟨#[]⟩] 25) = w0 at *
  refine (hx w0 h0).mono ?_
  rintro e w1 ⟨rfl, h1, hT1⟩
  have hR1 := hT1.blk hB (by omega)
  have hT1w := (Touch.of_below (g := g) hb0).trans hT1
  clear h h0 hB hb0 hT1 hx
  generalize s.textV 16 = nm at *
  go_wp2_with fail
  obtain ⟨hC2, hb2⟩ := box5 w1 25 (.string ⟨nm.toArray⟩) (.int .i64 0) (.int .i64 0) (.int .i64 0) (.string ⟨#[]⟩)
  have hgw1 : w.heap.size ≤ w1.heap.size := hT1w.size
  have hne : w.heap.size ≠ w1.heap.size := by have := hR1.lt; omega
  have hgv : g ≠ w1.heap.size := by omega
  have h2 := h1.below hb2
  have hR2 := hR1.below hb2 hR1.lt
  have hT2w := hT1w.trans (Touch.of_below (g := g) hb2)
  clear h1 hR1 hT1w hb2
  generalize w1.heap.size = gc at *
  generalize w1.alloc (.cells #[.string ⟨nm.toArray⟩, .int .i64 0, .int .i64 0, .int .i64 0, .string ⟨#[]⟩] 25) = w2 at *
  replace h2 : Sc w2 g 40 (Preds.nameS s) := by rw [eN.out]; exact h2
  refine (refUpto_is w2 g (Preds.nameS s) _ 0 h2 fN.out 8 (by decide) (by decide) HV8.out rfl).mono ?_
  rintro e w3 ⟨rfl, h3, hT3⟩
  have hC3 := hT3.blk hC2 (by omega)
  have hR3 := hT3.blk hR2 (by omega)
  have hT3w := hT2w.trans hT3
  clear hC2 hR2 hT2w hT3 h2
  obtain ⟨d0, d1, d2, d3, d4, f0, f1, f2, f3, f4⟩ := blk5 hC3
  have hC4 := hC3.put 1 (.int .i64 0)
  simp only [List.setIfInBounds_toArray, List.set_cons_zero, List.set_cons_succ] at hC4
  have h4 := h3.farN hC3 (noByte5 _ _ _ _ _) hgv 1 (.int .i64 0)
  have hT4w := hT3w.new_ (j := 1) (v := .int .i64 0) hgw1
  have hR4 := hR3.far (p := ⟨gc, 1, none⟩) hne (.int .i64 0)
  clear hC3 hT3w hR3 h3
  go_wp2_with fail
  clear d0 d1 d2 d3 d4 f0 f1 f2 f3 f4
  generalize w3.setCell ⟨gc, 1, none⟩ (.int .i64 0) = w4 at *
  refine (refFail_at w4 g _ h4 fU.out 3).mono ?_
  rintro e w5 ⟨rfl, h5, hT5⟩
  have hC5 := hT5.blk hC4 (by omega)
  have hR5 := hT5.blk hR4 (by omega)
  have hT5w := hT4w.trans hT5
  clear hC4 hR4 hT4w hT5 h4
  obtain ⟨d0, d1, d2, d3, d4, _, _, _, _, _⟩ := blk5 hC5
  go_wp2_with fail
  clear d0 d1 d2 d3 d4
  replace h5 : Sc w5 g 40 (Preds.behind s) := by rw [eO.out]; exact h5
  refine (HSD w5 h5).mono ?_
  rintro e w6 ⟨rfl, h6, hT6⟩
  have hC6 := hT6.blk hC5 (by omega)
  have hR6 := hT6.blk hR5 (by omega)
  have hT6w := hT5w.trans hT6
  clear hC5 hR5 hT5w hT6 h5
  clear HSD
  obtain ⟨d0, d1, d2, d3, d4, f0, f1, f2, f3, f4⟩ := blk5 hC6
  have hC7 := hC6.setV_ K0 I0 ⟨T0.toArray⟩
  have h7 := h6.setV_ hC6 (noByte5 _ _ _ _ _) hgv K0 I0 ⟨T0.toArray⟩
  have hT7w := hT6w.setV_ hgw1 K0 I0 ⟨T0.toArray⟩
  have hR7 := hR6.farV hne K0 I0 ⟨T0.toArray⟩
  clear hC6 hT6w hR6 h6
  unfold setV at hC7 h7 hT7w hR7
  obtain ⟨A', n', cap', hG, hG'⟩ := h7
  have h7 := Sc.intro hG hG'
  obtain ⟨_, s1, _, _⟩ := blk2 hG
  obtain ⟨r0, r1, r2, r3, r4, k0, k1, k2, k3, k4⟩ := blk5 hR7
  obtain ⟨x0, x1, x2, x3, x4, _, _, _, _, _⟩ := blk5 hC7
  clear hC7
  clear hG hG'
  by_cases hz : (Vals.getS (Preds.behind s)).err = 0
  · have HZ : Hid ((Vals.getS (Preds.behind s)).err = 0) := hz
    rw [hz] at s1
    obtain ⟨HN', rfl, rfl, rfl, rfl⟩ := HG.out hz
    subst HN'
    clear hz HG HBD
    go_wp2_with fail
    refine bodyPost_ret (v := .agg #[.string ⟨nm.toArray⟩, .int .i64 0, .int .i64 K0, .int .i64 I0, .string ⟨T0.toArray⟩]) (by simp [results, Try.results20, go_sem, r0, r1, r2, r3, r4]) rfl ?_
    exact ⟨rfl, h7.setP_ hR7 (noByte5 _ _ _ _ _) (by omega) _ _ _ _ _, hT7w.setP_ (Nat.le_refl _) _ _ _ _ _⟩
  · have HZ : Hid ((Vals.getS (Preds.behind s)).err ≠ 0) := hz
    have hd : (((Vals.getS (Preds.behind s)).err) != 0) = true := by simpa using hz
    obtain ⟨rfl, rfl, rfl, rfl, rfl⟩ := HBD.out hz
    clear hz HG HBD
    go_wp2_with fail
    refine bodyPost_ret (v := .agg #[.string ⟨#[]⟩, .int .i64 0, .int .i64 0, .int .i64 0, .string ⟨#[]⟩]) (by simp [results, Try.results20, go_sem, r0, r1, r2, r3, r4]) rfl ?_
    exact ⟨rfl, h7.setP_ hR7 (noByte5 _ _ _ _ _) (by omega) _ _ _ _ _, hT7w.setP_ (Nat.le_refl _) _ _ _ _ _⟩
set_option maxRecDepth 100000 in
set_option maxHeartbeats 3200000 in
theorem rpget_n7pre (w : World) (g : Nat) (s : Wire.St) (h : Sc w g 40 s) (hfi : s.fine) (N : List UInt8) (O K I : Int) (Tx : List UInt8) (s' : Wire.St) (hN : Preds.getN s = N) (hO : Preds.getO s = O) (hK : Preds.getK s = K) (hI : Preds.getI s = I) (hTx : Preds.getT s = Tx) (hs' : Preds.getS s = s') (hE : s.textV 16 ≠ []) (hv : Preds.rawO s = 7) (K0 I0 : Int) (T0 : List UInt8) (hK0 : Vals.getK (Preds.behind s) = K0) (hI0 : Vals.getI (Preds.behind s) = I0) (hT0 : Vals.getT (Preds.behind s) = T0) (_hl : T0.length ≤ 64) (hc : K0 ≠ 2) :
    Calls Try.prog 20 #[.pointer (some ⟨g, 0, none⟩)] w (Reads w g 40 (.agg #[.string ⟨N.toArray⟩, .int .i64 O, .int .i64 K, .int .i64 I, .string ⟨Tx.toArray⟩]) s') := by
  have HV8 : Hid ((Preds.nameS s).uptoV 8 = 7) := hv
  have eN : Hid (Preds.nameS s = s.textS 16) := by show _ = _; unfold Preds.nameS; rw [if_neg hE]
  have eO : Hid (Preds.behind s = (Preds.nameS s).uptoS 8) := by show _ = _; unfold Preds.behind Preds.opS; rw [HV8.out]; rfl
  have eS : Hid (Preds.getS s = (Vals.getS (Preds.behind s)).fail 3) := by
    show _ = _
    unfold Preds.getS
    rw [hv, if_neg (by omega)]
    unfold Preds.sideS
    rw [hK0, hT0, if_pos (by unfold Preds.wrong; simp [hc])]
  have HG : Hid (((Vals.getS (Preds.behind s)).fail 3).err = 0 → s.textV 16 = N ∧ 7 = O ∧ K0 = K ∧ I0 = I ∧ T0 = Tx) := fun hz => by
    have hz' : (Preds.getS s).err = 0 := by rw [eS.out]; exact hz
    obtain ⟨g1, g2, g3, g4, g5⟩ := Preds.get_good s hz'
    refine ⟨g1.symm.trans hN, ?_, ?_, ?_, ?_⟩
    · rw [← hO, g2, hv]; rfl
    · rw [← hK, g3]; unfold Preds.rawK; rw [hv]; rw [if_neg (by omega)]; exact hK0.symm
    · rw [← hI, g4]; unfold Preds.rawI; rw [hv]; rw [if_neg (by omega)]; exact hI0.symm
    · rw [← hTx, g5]; unfold Preds.rawT; rw [hv]; rw [if_neg (by omega)]; exact hT0.symm
  have HBD : Hid (((Vals.getS (Preds.behind s)).fail 3).err ≠ 0 → [] = N ∧ 0 = O ∧ 0 = K ∧ 0 = I ∧ [] = Tx) := fun hz => by
    have hz' : (Preds.getS s).err ≠ 0 := by rw [eS.out]; exact hz
    obtain ⟨g1, g2, g3, g4, g5⟩ := Preds.get_bad s hz'
    exact ⟨g1.symm.trans hN, g2.symm.trans hO, g3.symm.trans hK, g4.symm.trans hI, g5.symm.trans hTx⟩
  obtain rfl := eS.out.symm.trans hs'
  have fN := Lib.hid (Preds.nameS_fine hfi)
  have fO : Hid ((Preds.behind s).fine) := Preds.opS_fine (Preds.nameS_fine hfi)
  have fT := Lib.hid (Wire.St.textS_fine hfi 16)
  have fU := Lib.hid (Wire.St.uptoS_fine fN.out 8)
  have fV := Lib.hid (Vals.getS_fine fO.out)
  have hx := fun w0 h0 => refText_at w0 g s h0 hfi 16 (by decide) (by decide)
  have hd0 : (s.textV 16 == []) = false := by simpa using hE
  have HSD := fun w0 h0 => rvget_at w0 g (Preds.behind s) h0 fO.out K0 I0 T0 _ hK0 hI0 hT0 rfl
  have ec : (K0 != 2) = true := by simpa using hc
  clear hK0 hI0 hT0 hc
  clear hv hN hO hK hI hTx hs' eS hE
  have hg := h.lt
  obtain ⟨hB, hb0⟩ := box5 w 25 (.string ⟨#[]⟩) (.int .i64 0) (.int .i64 0) (.int .i64 0) (.string ⟨#[]⟩)
  have h0 := h.below hb0
  go_enter Try.func20, Try.ntmps20
  go_wp2_with fail
  generalize w.alloc (.cells #[.string ⟨#[]⟩, .int .i64 0, .int .i64 0, .int .i64 0, .string ⟨#[]⟩] 25) = w0 at *
  refine (hx w0 h0).mono ?_
  rintro e w1 ⟨rfl, h1, hT1⟩
  have hR1 := hT1.blk hB (by omega)
  have hT1w := (Touch.of_below (g := g) hb0).trans hT1
  clear h h0 hB hb0 hT1 hx
  generalize s.textV 16 = nm at *
  go_wp2_with fail
  obtain ⟨hC2, hb2⟩ := box5 w1 25 (.string ⟨nm.toArray⟩) (.int .i64 0) (.int .i64 0) (.int .i64 0) (.string ⟨#[]⟩)
  have hgw1 : w.heap.size ≤ w1.heap.size := hT1w.size
  have hne : w.heap.size ≠ w1.heap.size := by have := hR1.lt; omega
  have hgv : g ≠ w1.heap.size := by omega
  have h2 := h1.below hb2
  have hR2 := hR1.below hb2 hR1.lt
  have hT2w := hT1w.trans (Touch.of_below (g := g) hb2)
  clear h1 hR1 hT1w hb2
  generalize w1.heap.size = gc at *
  generalize w1.alloc (.cells #[.string ⟨nm.toArray⟩, .int .i64 0, .int .i64 0, .int .i64 0, .string ⟨#[]⟩] 25) = w2 at *
  replace h2 : Sc w2 g 40 (Preds.nameS s) := by rw [eN.out]; exact h2
  refine (refUpto_is w2 g (Preds.nameS s) _ 7 h2 fN.out 8 (by decide) (by decide) HV8.out rfl).mono ?_
  rintro e w3 ⟨rfl, h3, hT3⟩
  have hC3 := hT3.blk hC2 (by omega)
  have hR3 := hT3.blk hR2 (by omega)
  have hT3w := hT2w.trans hT3
  clear hC2 hR2 hT2w hT3 h2
  obtain ⟨d0, d1, d2, d3, d4, f0, f1, f2, f3, f4⟩ := blk5 hC3
  have hC4 := hC3.put 1 (.int .i64 7)
  simp only [List.setIfInBounds_toArray, List.set_cons_zero, List.set_cons_succ] at hC4
  have h4 := h3.farN hC3 (noByte5 _ _ _ _ _) hgv 1 (.int .i64 7)
  have hT4w := hT3w.new_ (j := 1) (v := .int .i64 7) hgw1
  have hR4 := hR3.far (p := ⟨gc, 1, none⟩) hne (.int .i64 7)
  clear hC3 hT3w hR3 h3
  go_wp2_with fail
  clear d0 d1 d2 d3 d4 f0 f1 f2 f3 f4
  generalize w3.setCell ⟨gc, 1, none⟩ (.int .i64 7) = w4 at *
  replace h4 : Sc w4 g 40 (Preds.behind s) := by rw [eO.out]; exact h4
  refine (HSD w4 h4).mono ?_
  rintro e w5 ⟨rfl, h5, hT5⟩
  have hC5 := hT5.blk hC4 (by omega)
  have hR5 := hT5.blk hR4 (by omega)
  have hT5w := hT4w.trans hT5
  clear hC4 hR4 hT4w hT5 h4
  clear HSD
  obtain ⟨d0, d1, d2, d3, d4, f0, f1, f2, f3, f4⟩ := blk5 hC5
  have hC6 := hC5.setV_ K0 I0 ⟨T0.toArray⟩
  have h6 := h5.setV_ hC5 (noByte5 _ _ _ _ _) hgv K0 I0 ⟨T0.toArray⟩
  have hT6w := hT5w.setV_ hgw1 K0 I0 ⟨T0.toArray⟩
  have hR6 := hR5.farV hne K0 I0 ⟨T0.toArray⟩
  clear hC5 hT5w hR5 h5
  unfold setV at hC6 h6 hT6w hR6
  go_wp2_with fail
  clear d0 d1 d2 d3 d4 f0 f1 f2 f3 f4
  generalize ((w5.setCell ⟨gc, 2, none⟩ (.int .i64 K0)).setCell ⟨gc, 3, none⟩ (.int .i64 I0)).setCell ⟨gc, 4, none⟩ (.string ⟨T0.toArray⟩) = w6 at *
  refine (refFail_at w6 g _ h6 fV.out 3).mono ?_
  rintro e w7 ⟨rfl, h7, hT7⟩
  have hC7 := hT7.blk hC6 (by omega)
  have hR7 := hT7.blk hR6 (by omega)
  have hT7w := hT6w.trans hT7
  clear hC6 hR6 hT6w hT7 h6
  obtain ⟨A', n', cap', hG, hG'⟩ := h7
  have h7 := Sc.intro hG hG'
  obtain ⟨_, s1, _, _⟩ := blk2 hG
  obtain ⟨r0, r1, r2, r3, r4, k0, k1, k2, k3, k4⟩ := blk5 hR7
  obtain ⟨x0, x1, x2, x3, x4, _, _, _, _, _⟩ := blk5 hC7
  clear hC7
  clear hG hG'
  by_cases hz : ((Vals.getS (Preds.behind s)).fail 3).err = 0
  · have HZ : Hid (((Vals.getS (Preds.behind s)).fail 3).err = 0) := hz
    rw [hz] at s1
    obtain ⟨HN', rfl, rfl, rfl, rfl⟩ := HG.out hz
    subst HN'
    clear hz HG HBD
    go_wp2_with fail
    refine bodyPost_ret (v := .agg #[.string ⟨nm.toArray⟩, .int .i64 7, .int .i64 K0, .int .i64 I0, .string ⟨T0.toArray⟩]) (by simp [results, Try.results20, go_sem, r0, r1, r2, r3, r4]) rfl ?_
    exact ⟨rfl, h7.setP_ hR7 (noByte5 _ _ _ _ _) (by omega) _ _ _ _ _, hT7w.setP_ (Nat.le_refl _) _ _ _ _ _⟩
  · have HZ : Hid (((Vals.getS (Preds.behind s)).fail 3).err ≠ 0) := hz
    have hd : ((((Vals.getS (Preds.behind s)).fail 3).err) != 0) = true := by simpa using hz
    obtain ⟨rfl, rfl, rfl, rfl, rfl⟩ := HBD.out hz
    clear hz HG HBD
    go_wp2_with fail
    refine bodyPost_ret (v := .agg #[.string ⟨#[]⟩, .int .i64 0, .int .i64 0, .int .i64 0, .string ⟨#[]⟩]) (by simp [results, Try.results20, go_sem, r0, r1, r2, r3, r4]) rfl ?_
    exact ⟨rfl, h7.setP_ hR7 (noByte5 _ _ _ _ _) (by omega) _ _ _ _ _, hT7w.setP_ (Nat.le_refl _) _ _ _ _ _⟩
set_option maxRecDepth 100000 in
set_option maxHeartbeats 3200000 in
theorem rpget_n7long (w : World) (g : Nat) (s : Wire.St) (h : Sc w g 40 s) (hfi : s.fine) (N : List UInt8) (O K I : Int) (Tx : List UInt8) (s' : Wire.St) (hN : Preds.getN s = N) (hO : Preds.getO s = O) (hK : Preds.getK s = K) (hI : Preds.getI s = I) (hTx : Preds.getT s = Tx) (hs' : Preds.getS s = s') (hE : s.textV 16 ≠ []) (hv : Preds.rawO s = 7) (I0 : Int) (T0 : List UInt8) (hK0 : Vals.getK (Preds.behind s) = 2) (hI0 : Vals.getI (Preds.behind s) = I0) (hT0 : Vals.getT (Preds.behind s) = T0) (hl : T0.length ≤ 64) (hc : 32 < T0.length) :
    Calls Try.prog 20 #[.pointer (some ⟨g, 0, none⟩)] w (Reads w g 40 (.agg #[.string ⟨N.toArray⟩, .int .i64 O, .int .i64 K, .int .i64 I, .string ⟨Tx.toArray⟩]) s') := by
  have HV8 : Hid ((Preds.nameS s).uptoV 8 = 7) := hv
  have eN : Hid (Preds.nameS s = s.textS 16) := by show _ = _; unfold Preds.nameS; rw [if_neg hE]
  have eO : Hid (Preds.behind s = (Preds.nameS s).uptoS 8) := by show _ = _; unfold Preds.behind Preds.opS; rw [HV8.out]; rfl
  have eS : Hid (Preds.getS s = (Vals.getS (Preds.behind s)).fail 3) := by
    show _ = _
    unfold Preds.getS
    rw [hv, if_neg (by omega)]
    unfold Preds.sideS
    rw [hK0, hT0, if_pos (by unfold Preds.wrong; simp [hc])]
  have HG : Hid (((Vals.getS (Preds.behind s)).fail 3).err = 0 → s.textV 16 = N ∧ 7 = O ∧ 2 = K ∧ I0 = I ∧ T0 = Tx) := fun hz => by
    have hz' : (Preds.getS s).err = 0 := by rw [eS.out]; exact hz
    obtain ⟨g1, g2, g3, g4, g5⟩ := Preds.get_good s hz'
    refine ⟨g1.symm.trans hN, ?_, ?_, ?_, ?_⟩
    · rw [← hO, g2, hv]; rfl
    · rw [← hK, g3]; unfold Preds.rawK; rw [hv]; rw [if_neg (by omega)]; exact hK0.symm
    · rw [← hI, g4]; unfold Preds.rawI; rw [hv]; rw [if_neg (by omega)]; exact hI0.symm
    · rw [← hTx, g5]; unfold Preds.rawT; rw [hv]; rw [if_neg (by omega)]; exact hT0.symm
  have HBD : Hid (((Vals.getS (Preds.behind s)).fail 3).err ≠ 0 → [] = N ∧ 0 = O ∧ 0 = K ∧ 0 = I ∧ [] = Tx) := fun hz => by
    have hz' : (Preds.getS s).err ≠ 0 := by rw [eS.out]; exact hz
    obtain ⟨g1, g2, g3, g4, g5⟩ := Preds.get_bad s hz'
    exact ⟨g1.symm.trans hN, g2.symm.trans hO, g3.symm.trans hK, g4.symm.trans hI, g5.symm.trans hTx⟩
  obtain rfl := eS.out.symm.trans hs'
  have fN := Lib.hid (Preds.nameS_fine hfi)
  have fO : Hid ((Preds.behind s).fine) := Preds.opS_fine (Preds.nameS_fine hfi)
  have fT := Lib.hid (Wire.St.textS_fine hfi 16)
  have fU := Lib.hid (Wire.St.uptoS_fine fN.out 8)
  have fV := Lib.hid (Vals.getS_fine fO.out)
  have hx := fun w0 h0 => refText_at w0 g s h0 hfi 16 (by decide) (by decide)
  have hd0 : (s.textV 16 == []) = false := by simpa using hE
  have HSD := fun w0 h0 => rvget_at w0 g (Preds.behind s) h0 fO.out 2 I0 T0 _ hK0 hI0 hT0 rfl
  have ec : decide ((32 : Int) < (T0.length : Int)) = true := by simp; omega
  clear hK0 hI0 hT0 hc
  clear hv hN hO hK hI hTx hs' eS hE
  have hg := h.lt
  obtain ⟨hB, hb0⟩ := box5 w 25 (.string ⟨#[]⟩) (.int .i64 0) (.int .i64 0) (.int .i64 0) (.string ⟨#[]⟩)
  have h0 := h.below hb0
  go_enter Try.func20, Try.ntmps20
  go_wp2_with fail
  generalize w.alloc (.cells #[.string ⟨#[]⟩, .int .i64 0, .int .i64 0, .int .i64 0, .string ⟨#[]⟩] 25) = w0 at *
  refine (hx w0 h0).mono ?_
  rintro e w1 ⟨rfl, h1, hT1⟩
  have hR1 := hT1.blk hB (by omega)
  have hT1w := (Touch.of_below (g := g) hb0).trans hT1
  clear h h0 hB hb0 hT1 hx
  generalize s.textV 16 = nm at *
  go_wp2_with fail
  obtain ⟨hC2, hb2⟩ := box5 w1 25 (.string ⟨nm.toArray⟩) (.int .i64 0) (.int .i64 0) (.int .i64 0) (.string ⟨#[]⟩)
  have hgw1 : w.heap.size ≤ w1.heap.size := hT1w.size
  have hne : w.heap.size ≠ w1.heap.size := by have := hR1.lt; omega
  have hgv : g ≠ w1.heap.size := by omega
  have h2 := h1.below hb2
  have hR2 := hR1.below hb2 hR1.lt
  have hT2w := hT1w.trans (Touch.of_below (g := g) hb2)
  clear h1 hR1 hT1w hb2
  generalize w1.heap.size = gc at *
  generalize w1.alloc (.cells #[.string ⟨nm.toArray⟩, .int .i64 0, .int .i64 0, .int .i64 0, .string ⟨#[]⟩] 25) = w2 at *
  replace h2 : Sc w2 g 40 (Preds.nameS s) := by rw [eN.out]; exact h2
  refine (refUpto_is w2 g (Preds.nameS s) _ 7 h2 fN.out 8 (by decide) (by decide) HV8.out rfl).mono ?_
  rintro e w3 ⟨rfl, h3, hT3⟩
  have hC3 := hT3.blk hC2 (by omega)
  have hR3 := hT3.blk hR2 (by omega)
  have hT3w := hT2w.trans hT3
  clear hC2 hR2 hT2w hT3 h2
  obtain ⟨d0, d1, d2, d3, d4, f0, f1, f2, f3, f4⟩ := blk5 hC3
  have hC4 := hC3.put 1 (.int .i64 7)
  simp only [List.setIfInBounds_toArray, List.set_cons_zero, List.set_cons_succ] at hC4
  have h4 := h3.farN hC3 (noByte5 _ _ _ _ _) hgv 1 (.int .i64 7)
  have hT4w := hT3w.new_ (j := 1) (v := .int .i64 7) hgw1
  have hR4 := hR3.far (p := ⟨gc, 1, none⟩) hne (.int .i64 7)
  clear hC3 hT3w hR3 h3
  go_wp2_with fail
  clear d0 d1 d2 d3 d4 f0 f1 f2 f3 f4
  generalize w3.setCell ⟨gc, 1, none⟩ (.int .i64 7) = w4 at *
  replace h4 : Sc w4 g 40 (Preds.behind s) := by rw [eO.out]; exact h4
  refine (HSD w4 h4).mono ?_
  rintro e w5 ⟨rfl, h5, hT5⟩
  have hC5 := hT5.blk hC4 (by omega)
  have hR5 := hT5.blk hR4 (by omega)
  have hT5w := hT4w.trans hT5
  clear hC4 hR4 hT4w hT5 h4
  clear HSD
  obtain ⟨d0, d1, d2, d3, d4, f0, f1, f2, f3, f4⟩ := blk5 hC5
  have hC6 := hC5.setV_ 2 I0 ⟨T0.toArray⟩
  have h6 := h5.setV_ hC5 (noByte5 _ _ _ _ _) hgv 2 I0 ⟨T0.toArray⟩
  have hT6w := hT5w.setV_ hgw1 2 I0 ⟨T0.toArray⟩
  have hR6 := hR5.farV hne 2 I0 ⟨T0.toArray⟩
  clear hC5 hT5w hR5 h5
  unfold setV at hC6 h6 hT6w hR6
  go_wp2_with fail
  clear d0 d1 d2 d3 d4 f0 f1 f2 f3 f4
  generalize ((w5.setCell ⟨gc, 2, none⟩ (.int .i64 2)).setCell ⟨gc, 3, none⟩ (.int .i64 I0)).setCell ⟨gc, 4, none⟩ (.string ⟨T0.toArray⟩) = w6 at *
  refine (refFail_at w6 g _ h6 fV.out 3).mono ?_
  rintro e w7 ⟨rfl, h7, hT7⟩
  have hC7 := hT7.blk hC6 (by omega)
  have hR7 := hT7.blk hR6 (by omega)
  have hT7w := hT6w.trans hT7
  clear hC6 hR6 hT6w hT7 h6
  obtain ⟨A', n', cap', hG, hG'⟩ := h7
  have h7 := Sc.intro hG hG'
  obtain ⟨_, s1, _, _⟩ := blk2 hG
  obtain ⟨r0, r1, r2, r3, r4, k0, k1, k2, k3, k4⟩ := blk5 hR7
  obtain ⟨x0, x1, x2, x3, x4, _, _, _, _, _⟩ := blk5 hC7
  clear hC7
  clear hG hG'
  by_cases hz : ((Vals.getS (Preds.behind s)).fail 3).err = 0
  · have HZ : Hid (((Vals.getS (Preds.behind s)).fail 3).err = 0) := hz
    rw [hz] at s1
    obtain ⟨HN', rfl, rfl, rfl, rfl⟩ := HG.out hz
    subst HN'
    clear hz HG HBD
    go_wp2_with fail
    refine bodyPost_ret (v := .agg #[.string ⟨nm.toArray⟩, .int .i64 7, .int .i64 2, .int .i64 I0, .string ⟨T0.toArray⟩]) (by simp [results, Try.results20, go_sem, r0, r1, r2, r3, r4]) rfl ?_
    exact ⟨rfl, h7.setP_ hR7 (noByte5 _ _ _ _ _) (by omega) _ _ _ _ _, hT7w.setP_ (Nat.le_refl _) _ _ _ _ _⟩
  · have HZ : Hid (((Vals.getS (Preds.behind s)).fail 3).err ≠ 0) := hz
    have hd : ((((Vals.getS (Preds.behind s)).fail 3).err) != 0) = true := by simpa using hz
    obtain ⟨rfl, rfl, rfl, rfl, rfl⟩ := HBD.out hz
    clear hz HG HBD
    go_wp2_with fail
    refine bodyPost_ret (v := .agg #[.string ⟨#[]⟩, .int .i64 0, .int .i64 0, .int .i64 0, .string ⟨#[]⟩]) (by simp [results, Try.results20, go_sem, r0, r1, r2, r3, r4]) rfl ?_
    exact ⟨rfl, h7.setP_ hR7 (noByte5 _ _ _ _ _) (by omega) _ _ _ _ _, hT7w.setP_ (Nat.le_refl _) _ _ _ _ _⟩
set_option maxRecDepth 100000 in
set_option maxHeartbeats 3200000 in
theorem rpget_n7short (w : World) (g : Nat) (s : Wire.St) (h : Sc w g 40 s) (hfi : s.fine) (N : List UInt8) (O K I : Int) (Tx : List UInt8) (s' : Wire.St) (hN : Preds.getN s = N) (hO : Preds.getO s = O) (hK : Preds.getK s = K) (hI : Preds.getI s = I) (hTx : Preds.getT s = Tx) (hs' : Preds.getS s = s') (hE : s.textV 16 ≠ []) (hv : Preds.rawO s = 7) (I0 : Int) (T0 : List UInt8) (hK0 : Vals.getK (Preds.behind s) = 2) (hI0 : Vals.getI (Preds.behind s) = I0) (hT0 : Vals.getT (Preds.behind s) = T0) (hl : T0.length ≤ 64) (hc : T0.length ≤ 32) :
    Calls Try.prog 20 #[.pointer (some ⟨g, 0, none⟩)] w (Reads w g 40 (.agg #[.string ⟨N.toArray⟩, .int .i64 O, .int .i64 K, .int .i64 I, .string ⟨Tx.toArray⟩]) s') := by
  have HV8 : Hid ((Preds.nameS s).uptoV 8 = 7) := hv
  have eN : Hid (Preds.nameS s = s.textS 16) := by show _ = _; unfold Preds.nameS; rw [if_neg hE]
  have eO : Hid (Preds.behind s = (Preds.nameS s).uptoS 8) := by show _ = _; unfold Preds.behind Preds.opS; rw [HV8.out]; rfl
  have eS : Hid (Preds.getS s = Vals.getS (Preds.behind s)) := by
    show _ = _
    unfold Preds.getS
    rw [hv, if_neg (by omega)]
    unfold Preds.sideS
    rw [hK0, hT0, if_neg (by unfold Preds.wrong; simp [hc] <;> omega)]
  have HG : Hid ((Vals.getS (Preds.behind s)).err = 0 → s.textV 16 = N ∧ 7 = O ∧ 2 = K ∧ I0 = I ∧ T0 = Tx) := fun hz => by
    have hz' : (Preds.getS s).err = 0 := by rw [eS.out]; exact hz
    obtain ⟨g1, g2, g3, g4, g5⟩ := Preds.get_good s hz'
    refine ⟨g1.symm.trans hN, ?_, ?_, ?_, ?_⟩
    · rw [← hO, g2, hv]; rfl
    · rw [← hK, g3]; unfold Preds.rawK; rw [hv]; rw [if_neg (by omega)]; exact hK0.symm
    · rw [← hI, g4]; unfold Preds.rawI; rw [hv]; rw [if_neg (by omega)]; exact hI0.symm
    · rw [← hTx, g5]; unfold Preds.rawT; rw [hv]; rw [if_neg (by omega)]; exact hT0.symm
  have HBD : Hid ((Vals.getS (Preds.behind s)).err ≠ 0 → [] = N ∧ 0 = O ∧ 0 = K ∧ 0 = I ∧ [] = Tx) := fun hz => by
    have hz' : (Preds.getS s).err ≠ 0 := by rw [eS.out]; exact hz
    obtain ⟨g1, g2, g3, g4, g5⟩ := Preds.get_bad s hz'
    exact ⟨g1.symm.trans hN, g2.symm.trans hO, g3.symm.trans hK, g4.symm.trans hI, g5.symm.trans hTx⟩
  obtain rfl := eS.out.symm.trans hs'
  have fN := Lib.hid (Preds.nameS_fine hfi)
  have fO : Hid ((Preds.behind s).fine) := Preds.opS_fine (Preds.nameS_fine hfi)
  have fT := Lib.hid (Wire.St.textS_fine hfi 16)
  have fU := Lib.hid (Wire.St.uptoS_fine fN.out 8)
  have fV := Lib.hid (Vals.getS_fine fO.out)
  have hx := fun w0 h0 => refText_at w0 g s h0 hfi 16 (by decide) (by decide)
  have hd0 : (s.textV 16 == []) = false := by simpa using hE
  have HSD := fun w0 h0 => rvget_at w0 g (Preds.behind s) h0 fO.out 2 I0 T0 _ hK0 hI0 hT0 rfl
  have ec : decide ((32 : Int) < (T0.length : Int)) = false := by simp; omega
  clear hK0 hI0 hT0 hc
  clear hv hN hO hK hI hTx hs' eS hE
  have hg := h.lt
  obtain ⟨hB, hb0⟩ := box5 w 25 (.string ⟨#[]⟩) (.int .i64 0) (.int .i64 0) (.int .i64 0) (.string ⟨#[]⟩)
  have h0 := h.below hb0
  go_enter Try.func20, Try.ntmps20
  go_wp2_with fail
  generalize w.alloc (.cells #[.string ⟨#[]⟩, .int .i64 0, .int .i64 0, .int .i64 0, .string ⟨#[]⟩] 25) = w0 at *
  refine (hx w0 h0).mono ?_
  rintro e w1 ⟨rfl, h1, hT1⟩
  have hR1 := hT1.blk hB (by omega)
  have hT1w := (Touch.of_below (g := g) hb0).trans hT1
  clear h h0 hB hb0 hT1 hx
  generalize s.textV 16 = nm at *
  go_wp2_with fail
  obtain ⟨hC2, hb2⟩ := box5 w1 25 (.string ⟨nm.toArray⟩) (.int .i64 0) (.int .i64 0) (.int .i64 0) (.string ⟨#[]⟩)
  have hgw1 : w.heap.size ≤ w1.heap.size := hT1w.size
  have hne : w.heap.size ≠ w1.heap.size := by have := hR1.lt; omega
  have hgv : g ≠ w1.heap.size := by omega
  have h2 := h1.below hb2
  have hR2 := hR1.below hb2 hR1.lt
  have hT2w := hT1w.trans (Touch.of_below (g := g) hb2)
  clear h1 hR1 hT1w hb2
  generalize w1.heap.size = gc at *
  generalize w1.alloc (.cells #[.string ⟨nm.toArray⟩, .int .i64 0, .int .i64 0, .int .i64 0, .string ⟨#[]⟩] 25) = w2 at *
  replace h2 : Sc w2 g 40 (Preds.nameS s) := by rw [eN.out]; exact h2
  refine (refUpto_is w2 g (Preds.nameS s) _ 7 h2 fN.out 8 (by decide) (by decide) HV8.out rfl).mono ?_
  rintro e w3 ⟨rfl, h3, hT3⟩
  have hC3 := hT3.blk hC2 (by omega)
  have hR3 := hT3.blk hR2 (by omega)
  have hT3w := hT2w.trans hT3
  clear hC2 hR2 hT2w hT3 h2
  obtain ⟨d0, d1, d2, d3, d4, f0, f1, f2, f3, f4⟩ := blk5 hC3
  have hC4 := hC3.put 1 (.int .i64 7)
  simp only [List.setIfInBounds_toArray, List.set_cons_zero, List.set_cons_succ] at hC4
  have h4 := h3.farN hC3 (noByte5 _ _ _ _ _) hgv 1 (.int .i64 7)
  have hT4w := hT3w.new_ (j := 1) (v := .int .i64 7) hgw1
  have hR4 := hR3.far (p := ⟨gc, 1, none⟩) hne (.int .i64 7)
  clear hC3 hT3w hR3 h3
  go_wp2_with fail
  clear d0 d1 d2 d3 d4 f0 f1 f2 f3 f4
  generalize w3.setCell ⟨gc, 1, none⟩ (.int .i64 7) = w4 at *
  replace h4 : Sc w4 g 40 (Preds.behind s) := by rw [eO.out]; exact h4
  refine (HSD w4 h4).mono ?_
  rintro e w5 ⟨rfl, h5, hT5⟩
  have hC5 := hT5.blk hC4 (by omega)
  have hR5 := hT5.blk hR4 (by omega)
  have hT5w := hT4w.trans hT5
  clear hC4 hR4 hT4w hT5 h4
  clear HSD
  obtain ⟨d0, d1, d2, d3, d4, f0, f1, f2, f3, f4⟩ := blk5 hC5
  have hC6 := hC5.setV_ 2 I0 ⟨T0.toArray⟩
  have h6 := h5.setV_ hC5 (noByte5 _ _ _ _ _) hgv 2 I0 ⟨T0.toArray⟩
  have hT6w := hT5w.setV_ hgw1 2 I0 ⟨T0.toArray⟩
  have hR6 := hR5.farV hne 2 I0 ⟨T0.toArray⟩
  clear hC5 hT5w hR5 h5
  unfold setV at hC6 h6 hT6w hR6
  obtain ⟨A', n', cap', hG, hG'⟩ := h6
  have h6 := Sc.intro hG hG'
  obtain ⟨_, s1, _, _⟩ := blk2 hG
  obtain ⟨r0, r1, r2, r3, r4, k0, k1, k2, k3, k4⟩ := blk5 hR6
  obtain ⟨x0, x1, x2, x3, x4, _, _, _, _, _⟩ := blk5 hC6
  clear hC6
  clear hG hG'
  by_cases hz : (Vals.getS (Preds.behind s)).err = 0
  · have HZ : Hid ((Vals.getS (Preds.behind s)).err = 0) := hz
    rw [hz] at s1
    obtain ⟨HN', rfl, rfl, rfl, rfl⟩ := HG.out hz
    subst HN'
    clear hz HG HBD
    go_wp2_with fail
    refine bodyPost_ret (v := .agg #[.string ⟨nm.toArray⟩, .int .i64 7, .int .i64 2, .int .i64 I0, .string ⟨T0.toArray⟩]) (by simp [results, Try.results20, go_sem, r0, r1, r2, r3, r4]) rfl ?_
    exact ⟨rfl, h6.setP_ hR6 (noByte5 _ _ _ _ _) (by omega) _ _ _ _ _, hT6w.setP_ (Nat.le_refl _) _ _ _ _ _⟩
  · have HZ : Hid ((Vals.getS (Preds.behind s)).err ≠ 0) := hz
    have hd : (((Vals.getS (Preds.behind s)).err) != 0) = true := by simpa using hz
    obtain ⟨rfl, rfl, rfl, rfl, rfl⟩ := HBD.out hz
    clear hz HG HBD
    go_wp2_with fail
    refine bodyPost_ret (v := .agg #[.string ⟨#[]⟩, .int .i64 0, .int .i64 0, .int .i64 0, .string ⟨#[]⟩]) (by simp [results, Try.results20, go_sem, r0, r1, r2, r3, r4]) rfl ?_
    exact ⟨rfl, h6.setP_ hR6 (noByte5 _ _ _ _ _) (by omega) _ _ _ _ _, hT6w.setP_ (Nat.le_refl _) _ _ _ _ _⟩
set_option maxRecDepth 100000 in
set_option maxHeartbeats 3200000 in
theorem rpget_nqlong (w : World) (g : Nat) (s : Wire.St) (h : Sc w g 40 s) (hfi : s.fine) (N : List UInt8) (O K I : Int) (Tx : List UInt8) (s' : Wire.St) (hN : Preds.getN s = N) (hO : Preds.getO s = O) (hK : Preds.getK s = K) (hI : Preds.getI s = I) (hTx : Preds.getT s = Tx) (hs' : Preds.getS s = s') (hE : s.textV 16 ≠ []) (q : Nat) (hq : 1 ≤ q) (hq2 : q ≤ 6) (hv : Preds.rawO s = q) (K0 I0 : Int) (T0 : List UInt8) (hK0 : Vals.getK (Preds.behind s) = K0) (hI0 : Vals.getI (Preds.behind s) = I0) (hT0 : Vals.getT (Preds.behind s) = T0) (hl : T0.length ≤ 64) (hc : 32 < T0.length) :
    Calls Try.prog 20 #[.pointer (some ⟨g, 0, none⟩)] w (Reads w g 40 (.agg #[.string ⟨N.toArray⟩, .int .i64 O, .int .i64 K, .int .i64 I, .string ⟨Tx.toArray⟩]) s') := by
  have HV8 : Hid ((Preds.nameS s).uptoV 8 = q) := hv
  have eN : Hid (Preds.nameS s = s.textS 16) := by show _ = _; unfold Preds.nameS; rw [if_neg hE]
  have eO : Hid (Preds.behind s = (Preds.nameS s).uptoS 8) := by show _ = _; unfold Preds.behind Preds.opS; rw [HV8.out]; rw [if_neg (by omega)]
  have eS : Hid (Preds.getS s = (Vals.getS (Preds.behind s)).fail 3) := by
    show _ = _
    unfold Preds.getS
    rw [hv, if_neg (by omega)]
    unfold Preds.sideS
    rw [hK0, hT0, if_pos (by unfold Preds.wrong; simp [hc])]
  have HG : Hid (((Vals.getS (Preds.behind s)).fail 3).err = 0 → s.textV 16 = N ∧ (q : Int) = O ∧ K0 = K ∧ I0 = I ∧ T0 = Tx) := fun hz => by
    have hz' : (Preds.getS s).err = 0 := by rw [eS.out]; exact hz
    obtain ⟨g1, g2, g3, g4, g5⟩ := Preds.get_good s hz'
    refine ⟨g1.symm.trans hN, ?_, ?_, ?_, ?_⟩
    · rw [← hO, g2, hv]
    · rw [← hK, g3]; unfold Preds.rawK; rw [hv]; rw [if_neg (by omega)]; exact hK0.symm
    · rw [← hI, g4]; unfold Preds.rawI; rw [hv]; rw [if_neg (by omega)]; exact hI0.symm
    · rw [← hTx, g5]; unfold Preds.rawT; rw [hv]; rw [if_neg (by omega)]; exact hT0.symm
  have HBD : Hid (((Vals.getS (Preds.behind s)).fail 3).err ≠ 0 → [] = N ∧ 0 = O ∧ 0 = K ∧ 0 = I ∧ [] = Tx) := fun hz => by
    have hz' : (Preds.getS s).err ≠ 0 := by rw [eS.out]; exact hz
    obtain ⟨g1, g2, g3, g4, g5⟩ := Preds.get_bad s hz'
    exact ⟨g1.symm.trans hN, g2.symm.trans hO, g3.symm.trans hK, g4.symm.trans hI, g5.symm.trans hTx⟩
  obtain rfl := eS.out.symm.trans hs'
  have fN := Lib.hid (Preds.nameS_fine hfi)
  have fO : Hid ((Preds.behind s).fine) := Preds.opS_fine (Preds.nameS_fine hfi)
  have fT := Lib.hid (Wire.St.textS_fine hfi 16)
  have fU := Lib.hid (Wire.St.uptoS_fine fN.out 8)
  have fV := Lib.hid (Vals.getS_fine fO.out)
  have hx := fun w0 h0 => refText_at w0 g s h0 hfi 16 (by decide) (by decide)
  have hd0 : (s.textV 16 == []) = false := by simpa using hE
  have HSD := fun w0 h0 => rvget_at w0 g (Preds.behind s) h0 fO.out K0 I0 T0 _ hK0 hI0 hT0 rfl
  have e8 : ((q : Int) != 8) = true := by simp; omega
  have e7 : ((q : Int) == 7) = false := by simp; omega
  have e0 : ((q : Int) == 0) = false := by simp; omega
  have hqi : (q : Int) ≤ 7 := by omega
  have ec : decide ((32 : Int) < (T0.length : Int)) = true := by simp; omega
  clear hK0 hI0 hT0 hc hq hq2
  clear hv hN hO hK hI hTx hs' eS hE
  have hg := h.lt
  obtain ⟨hB, hb0⟩ := box5 w 25 (.string ⟨#[]⟩) (.int .i64 0) (.int .i64 0) (.int .i64 0) (.string ⟨#[]⟩)
  have h0 := h.below hb0
  go_enter Try.func20, Try.ntmps20
  go_wp2_with fail
  generalize w.alloc (.cells #[.string ⟨#[]⟩, .int .i64 0, .int .i64 0, .int .i64 0, .string ⟨#[]⟩] 25) = w0 at *
  refine (hx w0 h0).mono ?_
  rintro e w1 ⟨rfl, h1, hT1⟩
  have hR1 := hT1.blk hB (by omega)
  have hT1w := (Touch.of_below (g := g) hb0).trans hT1
  clear h h0 hB hb0 hT1 hx
  generalize s.textV 16 = nm at *
  go_wp2_with fail
  obtain ⟨hC2, hb2⟩ := box5 w1 25 (.string ⟨nm.toArray⟩) (.int .i64 0) (.int .i64 0) (.int .i64 0) (.string ⟨#[]⟩)
  have hgw1 : w.heap.size ≤ w1.heap.size := hT1w.size
  have hne : w.heap.size ≠ w1.heap.size := by have := hR1.lt; omega
  have hgv : g ≠ w1.heap.size := by omega
  have h2 := h1.below hb2
  have hR2 := hR1.below hb2 hR1.lt
  have hT2w := hT1w.trans (Touch.of_below (g := g) hb2)
  clear h1 hR1 hT1w hb2
  generalize w1.heap.size = gc at *
  generalize w1.alloc (.cells #[.string ⟨nm.toArray⟩, .int .i64 0, .int .i64 0, .int .i64 0, .string ⟨#[]⟩] 25) = w2 at *
  replace h2 : Sc w2 g 40 (Preds.nameS s) := by rw [eN.out]; exact h2
  refine (refUpto_is w2 g (Preds.nameS s) _ q h2 fN.out 8 (by decide) (by decide) HV8.out rfl).mono ?_
  rintro e w3 ⟨rfl, h3, hT3⟩
  have hC3 := hT3.blk hC2 (by omega)
  have hR3 := hT3.blk hR2 (by omega)
  have hT3w := hT2w.trans hT3
  clear hC2 hR2 hT2w hT3 h2
  obtain ⟨d0, d1, d2, d3, d4, f0, f1, f2, f3, f4⟩ := blk5 hC3
  have hC4 := hC3.put 1 (.int .i64 (q : Int))
  simp only [List.setIfInBounds_toArray, List.set_cons_zero, List.set_cons_succ] at hC4
  have h4 := h3.farN hC3 (noByte5 _ _ _ _ _) hgv 1 (.int .i64 (q : Int))
  have hT4w := hT3w.new_ (j := 1) (v := .int .i64 (q : Int)) hgw1
  have hR4 := hR3.far (p := ⟨gc, 1, none⟩) hne (.int .i64 (q : Int))
  clear hC3 hT3w hR3 h3
  go_wp2_with fail
  clear d0 d1 d2 d3 d4 f0 f1 f2 f3 f4
  generalize w3.setCell ⟨gc, 1, none⟩ (.int .i64 (q : Int)) = w4 at *
  replace h4 : Sc w4 g 40 (Preds.behind s) := by rw [eO.out]; exact h4
  refine (HSD w4 h4).mono ?_
  rintro e w5 ⟨rfl, h5, hT5⟩
  have hC5 := hT5.blk hC4 (by omega)
  have hR5 := hT5.blk hR4 (by omega)
  have hT5w := hT4w.trans hT5
  clear hC4 hR4 hT4w hT5 h4
  clear HSD
  obtain ⟨d0, d1, d2, d3, d4, f0, f1, f2, f3, f4⟩ := blk5 hC5
  have hC6 := hC5.setV_ K0 I0 ⟨T0.toArray⟩
  have h6 := h5.setV_ hC5 (noByte5 _ _ _ _ _) hgv K0 I0 ⟨T0.toArray⟩
  have hT6w := hT5w.setV_ hgw1 K0 I0 ⟨T0.toArray⟩
  have hR6 := hR5.farV hne K0 I0 ⟨T0.toArray⟩
  clear hC5 hT5w hR5 h5
  unfold setV at hC6 h6 hT6w hR6
  go_wp2_with fail
  clear d0 d1 d2 d3 d4 f0 f1 f2 f3 f4
  generalize ((w5.setCell ⟨gc, 2, none⟩ (.int .i64 K0)).setCell ⟨gc, 3, none⟩ (.int .i64 I0)).setCell ⟨gc, 4, none⟩ (.string ⟨T0.toArray⟩) = w6 at *
  refine (refFail_at w6 g _ h6 fV.out 3).mono ?_
  rintro e w7 ⟨rfl, h7, hT7⟩
  have hC7 := hT7.blk hC6 (by omega)
  have hR7 := hT7.blk hR6 (by omega)
  have hT7w := hT6w.trans hT7
  clear hC6 hR6 hT6w hT7 h6
  obtain ⟨A', n', cap', hG, hG'⟩ := h7
  have h7 := Sc.intro hG hG'
  obtain ⟨_, s1, _, _⟩ := blk2 hG
  obtain ⟨r0, r1, r2, r3, r4, k0, k1, k2, k3, k4⟩ := blk5 hR7
  obtain ⟨x0, x1, x2, x3, x4, _, _, _, _, _⟩ := blk5 hC7
  clear hC7
  clear hG hG'
  by_cases hz : ((Vals.getS (Preds.behind s)).fail 3).err = 0
  · have HZ : Hid (((Vals.getS (Preds.behind s)).fail 3).err = 0) := hz
    rw [hz] at s1
    obtain ⟨HN', rfl, rfl, rfl, rfl⟩ := HG.out hz
    subst HN'
    clear hz HG HBD
    go_wp2_with fail
    refine bodyPost_ret (v := .agg #[.string ⟨nm.toArray⟩, .int .i64 (q : Int), .int .i64 K0, .int .i64 I0, .string ⟨T0.toArray⟩]) (by simp [results, Try.results20, go_sem, r0, r1, r2, r3, r4]) rfl ?_
    exact ⟨rfl, h7.setP_ hR7 (noByte5 _ _ _ _ _) (by omega) _ _ _ _ _, hT7w.setP_ (Nat.le_refl _) _ _ _ _ _⟩
  · have HZ : Hid (((Vals.getS (Preds.behind s)).fail 3).err ≠ 0) := hz
    have hd : ((((Vals.getS (Preds.behind s)).fail 3).err) != 0) = true := by simpa using hz
    obtain ⟨rfl, rfl, rfl, rfl, rfl⟩ := HBD.out hz
    clear hz HG HBD
    go_wp2_with fail
    refine bodyPost_ret (v := .agg #[.string ⟨#[]⟩, .int .i64 0, .int .i64 0, .int .i64 0, .string ⟨#[]⟩]) (by simp [results, Try.results20, go_sem, r0, r1, r2, r3, r4]) rfl ?_
    exact ⟨rfl, h7.setP_ hR7 (noByte5 _ _ _ _ _) (by omega) _ _ _ _ _, hT7w.setP_ (Nat.le_refl _) _ _ _ _ _⟩
set_option maxRecDepth 100000 in
set_option maxHeartbeats 3200000 in
theorem rpget_nqshort (w : World) (g : Nat) (s : Wire.St) (h : Sc w g 40 s) (hfi : s.fine) (N : List UInt8) (O K I : Int) (Tx : List UInt8) (s' : Wire.St) (hN : Preds.getN s = N) (hO : Preds.getO s = O) (hK : Preds.getK s = K) (hI : Preds.getI s = I) (hTx : Preds.getT s = Tx) (hs' : Preds.getS s = s') (hE : s.textV 16 ≠ []) (q : Nat) (hq : 1 ≤ q) (hq2 : q ≤ 6) (hv : Preds.rawO s = q) (K0 I0 : Int) (T0 : List UInt8) (hK0 : Vals.getK (Preds.behind s) = K0) (hI0 : Vals.getI (Preds.behind s) = I0) (hT0 : Vals.getT (Preds.behind s) = T0) (hl : T0.length ≤ 64) (hc : T0.length ≤ 32) :
    Calls Try.prog 20 #[.pointer (some ⟨g, 0, none⟩)] w (Reads w g 40 (.agg #[.string ⟨N.toArray⟩, .int .i64 O, .int .i64 K, .int .i64 I, .string ⟨Tx.toArray⟩]) s') := by
  have HV8 : Hid ((Preds.nameS s).uptoV 8 = q) := hv
  have eN : Hid (Preds.nameS s = s.textS 16) := by show _ = _; unfold Preds.nameS; rw [if_neg hE]
  have eO : Hid (Preds.behind s = (Preds.nameS s).uptoS 8) := by show _ = _; unfold Preds.behind Preds.opS; rw [HV8.out]; rw [if_neg (by omega)]
  have eS : Hid (Preds.getS s = Vals.getS (Preds.behind s)) := by
    show _ = _
    unfold Preds.getS
    rw [hv, if_neg (by omega)]
    unfold Preds.sideS
    rw [hK0, hT0, if_neg (by unfold Preds.wrong; simp [hc] <;> omega)]
  have HG : Hid ((Vals.getS (Preds.behind s)).err = 0 → s.textV 16 = N ∧ (q : Int) = O ∧ K0 = K ∧ I0 = I ∧ T0 = Tx) := fun hz => by
    have hz' : (Preds.getS s).err = 0 := by rw [eS.out]; exact hz
    obtain ⟨g1, g2, g3, g4, g5⟩ := Preds.get_good s hz'
    refine ⟨g1.symm.trans hN, ?_, ?_, ?_, ?_⟩
    · rw [← hO, g2, hv]
    · rw [← hK, g3]; unfold Preds.rawK; rw [hv]; rw [if_neg (by omega)]; exact hK0.symm
    · rw [← hI, g4]; unfold Preds.rawI; rw [hv]; rw [if_neg (by omega)]; exact hI0.symm
    · rw [← hTx, g5]; unfold Preds.rawT; rw [hv]; rw [if_neg (by omega)]; exact hT0.symm
  have HBD : Hid ((Vals.getS (Preds.behind s)).err ≠ 0 → [] = N ∧ 0 = O ∧ 0 = K ∧ 0 = I ∧ [] = Tx) := fun hz => by
    have hz' : (Preds.getS s).err ≠ 0 := by rw [eS.out]; exact hz
    obtain ⟨g1, g2, g3, g4, g5⟩ := Preds.get_bad s hz'
    exact ⟨g1.symm.trans hN, g2.symm.trans hO, g3.symm.trans hK, g4.symm.trans hI, g5.symm.trans hTx⟩
  obtain rfl := eS.out.symm.trans hs'
  have fN := Lib.hid (Preds.nameS_fine hfi)
  have fO : Hid ((Preds.behind s).fine) := Preds.opS_fine (Preds.nameS_fine hfi)
  have fT := Lib.hid (Wire.St.textS_fine hfi 16)
  have fU := Lib.hid (Wire.St.uptoS_fine fN.out 8)
  have fV := Lib.hid (Vals.getS_fine fO.out)
  have hx := fun w0 h0 => refText_at w0 g s h0 hfi 16 (by decide) (by decide)
  have hd0 : (s.textV 16 == []) = false := by simpa using hE
  have HSD := fun w0 h0 => rvget_at w0 g (Preds.behind s) h0 fO.out K0 I0 T0 _ hK0 hI0 hT0 rfl
  have e8 : ((q : Int) != 8) = true := by simp; omega
  have e7 : ((q : Int) == 7) = false := by simp; omega
  have e0 : ((q : Int) == 0) = false := by simp; omega
  have hqi : (q : Int) ≤ 7 := by omega
  have ec : decide ((32 : Int) < (T0.length : Int)) = false := by simp; omega
  clear hK0 hI0 hT0 hc hq hq2
  clear hv hN hO hK hI hTx hs' eS hE
  have hg := h.lt
  obtain ⟨hB, hb0⟩ := box5 w 25 (.string ⟨#[]⟩) (.int .i64 0) (.int .i64 0) (.int .i64 0) (.string ⟨#[]⟩)
  have h0 := h.below hb0
  go_enter Try.func20, Try.ntmps20
  go_wp2_with fail
  generalize w.alloc (.cells #[.string ⟨#[]⟩, .int .i64 0, .int .i64 0, .int .i64 0, .string ⟨#[]⟩] 25) = w0 at *
  refine (hx w0 h0).mono ?_
  rintro e w1 ⟨rfl, h1, hT1⟩
  have hR1 := hT1.blk hB (by omega)
  have hT1w := (Touch.of_below (g := g) hb0).trans hT1
  clear h h0 hB hb0 hT1 hx
  generalize s.textV 16 = nm at *
  go_wp2_with fail
  obtain ⟨hC2, hb2⟩ := box5 w1 25 (.string ⟨nm.toArray⟩) (.int .i64 0) (.int .i64 0) (.int .i64 0) (.string ⟨#[]⟩)
  have hgw1 : w.heap.size ≤ w1.heap.size := hT1w.size
  have hne : w.heap.size ≠ w1.heap.size := by have := hR1.lt; omega
  have hgv : g ≠ w1.heap.size := by omega
  have h2 := h1.below hb2
  have hR2 := hR1.below hb2 hR1.lt
  have hT2w := hT1w.trans (Touch.of_below (g := g) hb2)
  clear h1 hR1 hT1w hb2
  generalize w1.heap.size = gc at *
  generalize w1.alloc (.cells #[.string ⟨nm.toArray⟩, .int .i64 0, .int .i64 0, .int .i64 0, .string ⟨#[]⟩] 25) = w2 at *
  replace h2 : Sc w2 g 40 (Preds.nameS s) := by rw [eN.out]; exact h2
  refine (refUpto_is w2 g (Preds.nameS s) _ q h2 fN.out 8 (by decide) (by decide) HV8.out rfl).mono ?_
  rintro e w3 ⟨rfl, h3, hT3⟩
  have hC3 := hT3.blk hC2 (by omega)
  have hR3 := hT3.blk hR2 (by omega)
  have hT3w := hT2w.trans hT3
  clear hC2 hR2 hT2w hT3 h2
  obtain ⟨d0, d1, d2, d3, d4, f0, f1, f2, f3, f4⟩ := blk5 hC3
  have hC4 := hC3.put 1 (.int .i64 (q : Int))
  simp only [List.setIfInBounds_toArray, List.set_cons_zero, List.set_cons_succ] at hC4
  have h4 := h3.farN hC3 (noByte5 _ _ _ _ _) hgv 1 (.int .i64 (q : Int))
  have hT4w := hT3w.new_ (j := 1) (v := .int .i64 (q : Int)) hgw1
  have hR4 := hR3.far (p := ⟨gc, 1, none⟩) hne (.int .i64 (q : Int))
  clear hC3 hT3w hR3 h3
  go_wp2_with fail
  clear d0 d1 d2 d3 d4 f0 f1 f2 f3 f4
  generalize w3.setCell ⟨gc, 1, none⟩ (.int .i64 (q : Int)) = w4 at *
  replace h4 : Sc w4 g 40 (Preds.behind s) := by rw [eO.out]; exact h4
  refine (HSD w4 h4).mono ?_
  rintro e w5 ⟨rfl, h5, hT5⟩
  have hC5 := hT5.blk hC4 (by omega)
  have hR5 := hT5.blk hR4 (by omega)
  have hT5w := hT4w.trans hT5
  clear hC4 hR4 hT4w hT5 h4
  clear HSD
  obtain ⟨d0, d1, d2, d3, d4, f0, f1, f2, f3, f4⟩ := blk5 hC5
  have hC6 := hC5.setV_ K0 I0 ⟨T0.toArray⟩
  have h6 := h5.setV_ hC5 (noByte5 _ _ _ _ _) hgv K0 I0 ⟨T0.toArray⟩
  have hT6w := hT5w.setV_ hgw1 K0 I0 ⟨T0.toArray⟩
  have hR6 := hR5.farV hne K0 I0 ⟨T0.toArray⟩
  clear hC5 hT5w hR5 h5
  unfold setV at hC6 h6 hT6w hR6
  obtain ⟨A', n', cap', hG, hG'⟩ := h6
  have h6 := Sc.intro hG hG'
  obtain ⟨_, s1, _, _⟩ := blk2 hG
  obtain ⟨r0, r1, r2, r3, r4, k0, k1, k2, k3, k4⟩ := blk5 hR6
  obtain ⟨x0, x1, x2, x3, x4, _, _, _, _, _⟩ := blk5 hC6
  clear hC6
  clear hG hG'
  by_cases hz : (Vals.getS (Preds.behind s)).err = 0
  · have HZ : Hid ((Vals.getS (Preds.behind s)).err = 0) := hz
    rw [hz] at s1
    obtain ⟨HN', rfl, rfl, rfl, rfl⟩ := HG.out hz
    subst HN'
    clear hz HG HBD
    go_wp2_with fail
    refine bodyPost_ret (v := .agg #[.string ⟨nm.toArray⟩, .int .i64 (q : Int), .int .i64 K0, .int .i64 I0, .string ⟨T0.toArray⟩]) (by simp [results, Try.results20, go_sem, r0, r1, r2, r3, r4]) rfl ?_
    exact ⟨rfl, h6.setP_ hR6 (noByte5 _ _ _ _ _) (by omega) _ _ _ _ _, hT6w.setP_ (Nat.le_refl _) _ _ _ _ _⟩
  · have HZ : Hid ((Vals.getS (Preds.behind s)).err ≠ 0) := hz
    have hd : (((Vals.getS (Preds.behind s)).err) != 0) = true := by simpa using hz
    obtain ⟨rfl, rfl, rfl, rfl, rfl⟩ := HBD.out hz
    clear hz HG HBD
    go_wp2_with fail
    refine bodyPost_ret (v := .agg #[.string ⟨#[]⟩, .int .i64 0, .int .i64 0, .int .i64 0, .string ⟨#[]⟩]) (by simp [results, Try.results20, go_sem, r0, r1, r2, r3, r4]) rfl ?_
    exact ⟨rfl, h6.setP_ hR6 (noByte5 _ _ _ _ _) (by omega) _ _ _ _ _, hT6w.setP_ (Nat.le_refl _) _ _ _ _ _⟩
set_option maxRecDepth 100000 in
set_option maxHeartbeats 3200000 in
theorem rpget_e8 (w : World) (g : Nat) (s : Wire.St) (h : Sc w g 40 s) (hfi : s.fine) (N : List UInt8) (O K I : Int) (Tx : List UInt8) (s' : Wire.St) (hN : Preds.getN s = N) (hO : Preds.getO s = O) (hK : Preds.getK s = K) (hI : Preds.getI s = I) (hTx : Preds.getT s = Tx) (hs' : Preds.getS s = s') (hE : s.textV 16 = []) (hv : Preds.rawO s = 8) :
    Calls Try.prog 20 #[.pointer (some ⟨g, 0, none⟩)] w (Reads w g 40 (.agg #[.string ⟨N.toArray⟩, .int .i64 O, .int .i64 K, .int .i64 I, .string ⟨Tx.toArray⟩]) s') := by
  have HV8 : Hid ((Preds.nameS s).uptoV 8 = 8) := hv
  have eN : Hid (Preds.nameS s = (s.textS 16).fail 3) := by show _ = _; unfold Preds.nameS; rw [if_pos hE]
  have eO : Hid (Preds.behind s = (Preds.nameS s).uptoS 8) := by show _ = _; unfold Preds.behind Preds.opS; rw [HV8.out]; rfl
  have eS : Hid (Preds.getS s = Preds.behind s) := by show _ = _; unfold Preds.getS; rw [hv]; rfl
  have HG : Hid ((Preds.behind s).err = 0 → s.textV 16 = N ∧ 8 = O ∧ 0 = K ∧ 0 = I ∧ [] = Tx) := fun hz => by
    have hz' : (Preds.getS s).err = 0 := by rw [eS.out]; exact hz
    obtain ⟨g1, g2, g3, g4, g5⟩ := Preds.get_good s hz'
    refine ⟨g1.symm.trans hN, ?_, ?_, ?_, ?_⟩
    · rw [← hO, g2, hv]; rfl
    · rw [← hK, g3]; unfold Preds.rawK; rw [hv]; rfl
    · rw [← hI, g4]; unfold Preds.rawI; rw [hv]; rfl
    · rw [← hTx, g5]; unfold Preds.rawT; rw [hv]; rfl
  have HBD : Hid ((Preds.behind s).err ≠ 0 → [] = N ∧ 0 = O ∧ 0 = K ∧ 0 = I ∧ [] = Tx) := fun hz => by
    have hz' : (Preds.getS s).err ≠ 0 := by rw [eS.out]; exact hz
    obtain ⟨g1, g2, g3, g4, g5⟩ := Preds.get_bad s hz'
    exact ⟨g1.symm.trans hN, g2.symm.trans hO, g3.symm.trans hK, g4.symm.trans hI, g5.symm.trans hTx⟩
  obtain rfl := eS.out.symm.trans hs'
  have fN := Lib.hid (Preds.nameS_fine hfi)
  have fO : Hid ((Preds.behind s).fine) := Preds.opS_fine (Preds.nameS_fine hfi)
  have fT := Lib.hid (Wire.St.textS_fine hfi 16)
  have fU := Lib.hid (Wire.St.uptoS_fine fN.out 8)
  have fV := Lib.hid (Vals.getS_fine fO.out)
  have hx := fun w0 h0 => refText_at w0 g s h0 hfi 16 (by decide) (by decide)
  rw [hE] at hx HG
  clear hv hN hO hK hI hTx hs' eS hE
  have hg := h.lt
  obtain ⟨hB, hb0⟩ := box5 w 25 (.string ⟨#[]⟩) (.int .i64 0) (.int .i64 0) (.int .i64 0) (.string ⟨#[]⟩)
  have h0 := h.below hb0
  go_enter Try.func20, Try.ntmps20
  go_wp2_with fail
  generalize w.alloc (.cells #[.string ⟨#[]⟩, .int .i64 0, .int .i64 0, .int .i64 0, .string ⟨#[]⟩] 25) = w0 at *
  refine (hx w0 h0).mono ?_
  rintro e w1 ⟨rfl, h1, hT1⟩
  have hR1 := hT1.blk hB (by omega)
  have hT1w := (Touch.of_below (g := g) hb0).trans hT1
  clear h h0 hB hb0 hT1 hx
  go_wp2_with fail
  obtain ⟨hC2, hb2⟩ := box5 w1 25 (.string ⟨#[]⟩) (.int .i64 0) (.int .i64 0) (.int .i64 0) (.string ⟨#[]⟩)
  have hgw1 : w.heap.size ≤ w1.heap.size := hT1w.size
  have hne : w.heap.size ≠ w1.heap.size := by have := hR1.lt; omega
  have hgv : g ≠ w1.heap.size := by omega
  have h2 := h1.below hb2
  have hR2 := hR1.below hb2 hR1.lt
  have hT2w := hT1w.trans (Touch.of_below (g := g) hb2)
  clear h1 hR1 hT1w hb2
  generalize w1.heap.size = gc at *
  generalize w1.alloc (.cells #[.string ⟨#[]⟩, .int .i64 0, .int .i64 0, .int .i64 0, .string ⟨#[]⟩] 25) = w2 at *
  refine (refFail_at w2 g _ h2 fT.out 3).mono ?_
  rintro e w3 ⟨rfl, h3, hT3⟩
  have hC3 := hT3.blk hC2 (by omega)
  have hR3 := hT3.blk hR2 (by omega)
  have hT3w := hT2w.trans hT3
  clear hC2 hR2 hT2w hT3 h2
  go_wp2_with fail
  replace h3 : Sc w3 g 40 (Preds.nameS s) := by rw [eN.out]; exact h3
  refine (refUpto_is w3 g (Preds.nameS s) _ 8 h3 fN.out 8 (by decide) (by decide) HV8.out rfl).mono ?_
  rintro e w4 ⟨rfl, h4, hT4⟩
  have hC4 := hT4.blk hC3 (by omega)
  have hR4 := hT4.blk hR3 (by omega)
  have hT4w := hT3w.trans hT4
  clear hC3 hR3 hT3w hT4 h3
  replace h4 : Sc w4 g 40 (Preds.behind s) := by rw [eO.out]; exact h4
  obtain ⟨d0, d1, d2, d3, d4, f0, f1, f2, f3, f4⟩ := blk5 hC4
  have hC5 := hC4.put 1 (.int .i64 8)
  simp only [List.setIfInBounds_toArray, List.set_cons_zero, List.set_cons_succ] at hC5
  have h5 := h4.farN hC4 (noByte5 _ _ _ _ _) hgv 1 (.int .i64 8)
  have hT5w := hT4w.new_ (j := 1) (v := .int .i64 8) hgw1
  have hR5 := hR4.far (p := ⟨gc, 1, none⟩) hne (.int .i64 8)
  clear hT4w h4
  obtain ⟨A', n', cap', hG, hG'⟩ := h5
  have h5 := Sc.intro hG hG'
  obtain ⟨_, s1, _, _⟩ := blk2 hG
  obtain ⟨r0, r1, r2, r3, r4, k0, k1, k2, k3, k4⟩ := blk5 hR5
  obtain ⟨x0, x1, x2, x3, x4, _, _, _, _, _⟩ := blk5 hC5
  clear hC5
  clear hG hG'
  by_cases hz : (Preds.behind s).err = 0
  · have HZ : Hid ((Preds.behind s).err = 0) := hz
    rw [hz] at s1
    obtain ⟨HN', rfl, rfl, rfl, rfl⟩ := HG.out hz
    subst HN'
    clear hz HG HBD
    go_wp2_with fail
    refine bodyPost_ret (v := .agg #[.string ⟨#[]⟩, .int .i64 8, .int .i64 0, .int .i64 0, .string ⟨#[]⟩]) (by simp [results, Try.results20, go_sem, r0, r1, r2, r3, r4]) rfl ?_
    exact ⟨rfl, h5.setP_ hR5 (noByte5 _ _ _ _ _) (by omega) _ _ _ _ _, hT5w.setP_ (Nat.le_refl _) _ _ _ _ _⟩
  · have HZ : Hid ((Preds.behind s).err ≠ 0) := hz
    have hd : (((Preds.behind s).err) != 0) = true := by simpa using hz
    obtain ⟨rfl, rfl, rfl, rfl, rfl⟩ := HBD.out hz
    clear hz HG HBD
    go_wp2_with fail
    refine bodyPost_ret (v := .agg #[.string ⟨#[]⟩, .int .i64 0, .int .i64 0, .int .i64 0, .string ⟨#[]⟩]) (by simp [results, Try.results20, go_sem, r0, r1, r2, r3, r4]) rfl ?_
    exact ⟨rfl, h5.setP_ hR5 (noByte5 _ _ _ _ _) (by omega) _ _ _ _ _, hT5w.setP_ (Nat.le_refl _) _ _ _ _ _⟩
set_option maxRecDepth 100000 in
set_option maxHeartbeats 3200000 in
theorem rpget_e0long (w : World) (g : Nat) (s : Wire.St) (h : Sc w g 40 s) (hfi : s.fine) (N : List UInt8) (O K I : Int) (Tx : List UInt8) (s' : Wire.St) (hN : Preds.getN s = N) (hO : Preds.getO s = O) (hK : Preds.getK s = K) (hI : Preds.getI s = I) (hTx : Preds.getT s = Tx) (hs' : Preds.getS s = s') (hE : s.textV 16 = []) (hv : Preds.rawO s = 0) (K0 I0 : Int) (T0 : List UInt8) (hK0 : Vals.getK (Preds.behind s) = K0) (hI0 : Vals.getI (Preds.behind s) = I0) (hT0 : Vals.getT (Preds.behind s) = T0) (hl : T0.length ≤ 64) (hc : 32 < T0.length) :
    Calls Try.prog 20 #[.pointer (some ⟨g, 0, none⟩)] w (Reads w g 40 (.agg #[.string ⟨N.toArray⟩, .int .i64 O, .int .i64 K, .int .i64 I, .string ⟨Tx.toArray⟩]) s') := by
  have HV8 : Hid ((Preds.nameS s).uptoV 8 = 0) := hv
  have eN : Hid (Preds.nameS s = (s.textS 16).fail 3) := by show _ = _; unfold Preds.nameS; rw [if_pos hE]
  have eO : Hid (Preds.behind s = ((Preds.nameS s).uptoS 8).fail 3) := by show _ = _; unfold Preds.behind Preds.opS; rw [HV8.out]; rfl
  have eS : Hid (Preds.getS s = (Vals.getS (Preds.behind s)).fail 3) := by
    show _ = _
    unfold Preds.getS
    rw [hv, if_neg (by omega)]
    unfold Preds.sideS
    rw [hK0, hT0, if_pos (by unfold Preds.wrong; simp [hc])]
  have HG : Hid (((Vals.getS (Preds.behind s)).fail 3).err = 0 → s.textV 16 = N ∧ 0 = O ∧ K0 = K ∧ I0 = I ∧ T0 = Tx) := fun hz => by
    have hz' : (Preds.getS s).err = 0 := by rw [eS.out]; exact hz
    obtain ⟨g1, g2, g3, g4, g5⟩ := Preds.get_good s hz'
    refine ⟨g1.symm.trans hN, ?_, ?_, ?_, ?_⟩
    · rw [← hO, g2, hv]; rfl
    · rw [← hK, g3]; unfold Preds.rawK; rw [hv]; rw [if_neg (by omega)]; exact hK0.symm
    · rw [← hI, g4]; unfold Preds.rawI; rw [hv]; rw [if_neg (by omega)]; exact hI0.symm
    · rw [← hTx, g5]; unfold Preds.rawT; rw [hv]; rw [if_neg (by omega)]; exact hT0.symm
  have HBD : Hid (((Vals.getS (Preds.behind s)).fail 3).err ≠ 0 → [] = N ∧ 0 = O ∧ 0 = K ∧ 0 = I ∧ [] = Tx) := fun hz => by
    have hz' : (Preds.getS s).err ≠ 0 := by rw [eS.out]; exact hz
    obtain ⟨g1, g2, g3, g4, g5⟩ := Preds.get_bad s hz'
    exact ⟨g1.symm.trans hN, g2.symm.trans hO, g3.symm.trans hK, g4.symm.trans hI, g5.symm.trans hTx⟩
  obtain rfl := eS.out.symm.trans hs'
  have fN := Lib.hid (Preds.nameS_fine hfi)
  have fO : Hid ((Preds.behind s).fine) := Preds.opS_fine (Preds.nameS_fine hfi)
  have fT := Lib.hid (Wire.St.textS_fine hfi 16)
  have fU := Lib.hid (Wire.St.uptoS_fine fN.out 8)
  have fV := Lib.hid (Vals.getS_fine fO.out)
  have hx := fun w0 h0 => refText_at w0 g s h0 hfi 16 (by decide) (by decide)
  rw [hE] at hx HG
  have HSD := fun w0 h0 => rvget_at w0 g (Preds.behind s) h0 fO.out K0 I0 T0 _ hK0 hI0 hT0 rfl
  have ec : decide ((32 : Int) < (T0.length : Int)) = true := by simp; omega
  clear hK0 hI0 hT0 hc
  clear hv hN hO hK hI hTx hs' eS hE
  have hg := h.lt
  obtain ⟨hB, hb0⟩ := box5 w 25 (.string ⟨#[]⟩) (.int .i64 0) (.int .i64 0) (.int .i64 0) (.string ⟨#[]⟩)
  have h0 := h.below hb0
  go_enter Try.func20, Try.ntmps20
  go_wp2_with fail
  generalize w.alloc (.cells #[.string ⟨#[]⟩, .int .i64 0, .int .i64 0, .int .i64 0, .string ⟨#[]⟩] 25) = w0 at *
  refine (hx w0 h0).mono ?_
  rintro e w1 ⟨rfl, h1, hT1⟩
  have hR1 := hT1.blk hB (by omega)
  have hT1w := (Touch.of_below (g := g) hb0).trans hT1
  clear h h0 hB hb0 hT1 hx
  go_wp2_with fail
  obtain ⟨hC2, hb2⟩ := box5 w1 25 (.string ⟨#[]⟩) (.int .i64 0) (.int .i64 0) (.int .i64 0) (.string ⟨#[]⟩)
  have hgw1 : w.heap.size ≤ w1.heap.size := hT1w.size
  have hne : w.heap.size ≠ w1.heap.size := by have := hR1.lt; omega
  have hgv : g ≠ w1.heap.size := by omega
  have h2 := h1.below hb2
  have hR2 := hR1.below hb2 hR1.lt
  have hT2w := hT1w.trans (Touch.of_below (g := g) hb2)
  clear h1 hR1 hT1w hb2
  generalize w1.heap.size = gc at *
  generalize w1.alloc (.cells #[.string ⟨#[]⟩, .int .i64 0, .int .i64 0, .int .i64 0, .string ⟨#[]⟩] 25) = w2 at *
  refine (refFail_at w2 g _ h2 fT.out 3).mono ?_
  rintro e w3 ⟨rfl, h3, hT3⟩
  have hC3 := hT3.blk hC2 (by omega)
  have hR3 := hT3.blk hR2 (by omega)
  have hT3w := hT2w.trans hT3
  clear hC2 hR2 hT2w hT3 h2
  go_wp2_with fail
  replace h3 : Sc w3 g 40 (Preds.nameS s) := by rw [eN.out]; exact h3
  refine (refUpto_is w3 g (Preds.nameS s) _ 0 h3 fN.out 8 (by decide) (by decide) HV8.out rfl).mono ?_
  rintro e w4 ⟨rfl, h4, hT4⟩
  have hC4 := hT4.blk hC3 (by omega)
  have hR4 := hT4.blk hR3 (by omega)
  have hT4w := hT3w.trans hT4
  clear hC3 hR3 hT3w hT4 h3
  obtain ⟨d0, d1, d2, d3, d4, f0, f1, f2, f3, f4⟩ := blk5 hC4
  have hC5 := hC4.put 1 (.int .i64 0)
  simp only [List.setIfInBounds_toArray, List.set_cons_zero, List.set_cons_succ] at hC5
  have h5 := h4.farN hC4 (noByte5 _ _ _ _ _) hgv 1 (.int .i64 0)
  have hT5w := hT4w.new_ (j := 1) (v := .int .i64 0) hgw1
  have hR5 := hR4.far (p := ⟨gc, 1, none⟩) hne (.int .i64 0)
  clear hC4 hT4w hR4 h4
  go_wp2_with fail
  clear d0 d1 d2 d3 d4 f0 f1 f2 f3 f4
  generalize w4.setCell ⟨gc, 1, none⟩ (.int .i64 0) = w5 at *
  refine (refFail_at w5 g _ h5 fU.out 3).mono ?_
  rintro e w6 ⟨rfl, h6, hT6⟩
  have hC6 := hT6.blk hC5 (by omega)
  have hR6 := hT6.blk hR5 (by omega)
  have hT6w := hT5w.trans hT6
  clear hC5 hR5 hT5w hT6 h5
  obtain ⟨d0, d1, d2, d3, d4, _, _, _, _, _⟩ := blk5 hC6
  go_wp2_with fail
  clear d0 d1 d2 d3 d4
  replace h6 : Sc w6 g 40 (Preds.behind s) := by rw [eO.out]; exact h6
  refine (HSD w6 h6).mono ?_
  rintro e w7 ⟨rfl, h7, hT7⟩
  have hC7 := hT7.blk hC6 (by omega)
  have hR7 := hT7.blk hR6 (by omega)
  have hT7w := hT6w.trans hT7
  clear hC6 hR6 hT6w hT7 h6
  clear HSD
  obtain ⟨d0, d1, d2, d3, d4, f0, f1, f2, f3, f4⟩ := blk5 hC7
  have hC8 := hC7.setV_ K0 I0 ⟨T0.toArray⟩
  have h8 := h7.setV_ hC7 (noByte5 _ _ _ _ _) hgv K0 I0 ⟨T0.toArray⟩
  have hT8w := hT7w.setV_ hgw1 K0 I0 ⟨T0.toArray⟩
  have hR8 := hR7.farV hne K0 I0 ⟨T0.toArray⟩
  clear hC7 hT7w hR7 h7
  unfold setV at hC8 h8 hT8w hR8
  go_wp2_with fail
  clear d0 d1 d2 d3 d4 f0 f1 f2 f3 f4
  generalize ((w7.setCell ⟨gc, 2, none⟩ (.int .i64 K0)).setCell ⟨gc, 3, none⟩ (.int .i64 I0)).setCell ⟨gc, 4, none⟩ (.string ⟨T0.toArray⟩) = w8 at *
  refine (refFail_at w8 g _ h8 fV.out 3).mono ?_
  rintro e w9 ⟨rfl, h9, hT9⟩
  have hC9 := hT9.blk hC8 (by omega)
  have hR9 := hT9.blk hR8 (by omega)
  have hT9w := hT8w.trans hT9
  clear hC8 hR8 hT8w hT9 h8
  obtain ⟨A', n', cap', hG, hG'⟩ := h9
  have h9 := Sc.intro hG hG'
  obtain ⟨_, s1, _, _⟩ := blk2 hG
  obtain ⟨r0, r1, r2, r3, r4, k0, k1, k2, k3, k4⟩ := blk5 hR9
  obtain ⟨x0, x1, x2, x3, x4, _, _, _, _, _⟩ := blk5 hC9
  clear hC9
  clear hG hG'
  by_cases hz : ((Vals.getS (Preds.behind s)).fail 3).err = 0
  · have HZ : Hid (((Vals.getS (Preds.behind s)).fail 3).err = 0) := hz
    rw [hz] at s1
    obtain ⟨HN', rfl, rfl, rfl, rfl⟩ := HG.out hz
    subst HN'
    clear hz HG HBD
    go_wp2_with fail
    refine bodyPost_ret (v := .agg #[.string ⟨#[]⟩, .int .i64 0, .int .i64 K0, .int .i64 I0, .string ⟨T0.toArray⟩]) (by simp [results, Try.results20, go_sem, r0, r1, r2, r3, r4]) rfl ?_
    exact ⟨rfl, h9.setP_ hR9 (noByte5 _ _ _ _ _) (by omega) _ _ _ _ _, hT9w.setP_ (Nat.le_refl _) _ _ _ _ _⟩
  · have HZ : Hid (((Vals.getS (Preds.behind s)).fail 3).err ≠ 0) := hz
    have hd : ((((Vals.getS (Preds.behind s)).fail 3).err) != 0) = true := by simpa using hz
    obtain ⟨rfl, rfl, rfl, rfl, rfl⟩ := HBD.out hz
    clear hz HG HBD
    go_wp2_with fail
    refine bodyPost_ret (v := .agg #[.string ⟨#[]⟩, .int .i64 0, .int .i64 0, .int .i64 0, .string ⟨#[]⟩]) (by simp [results, Try.results20, go_sem, r0, r1, r2, r3, r4]) rfl ?_
    exact ⟨rfl, h9.setP_ hR9 (noByte5 _ _ _ _ _) (by omega) _ _ _ _ _, hT9w.setP_ (Nat.le_refl _) _ _ _ _ _⟩
set_option maxRecDepth 100000 in
set_option maxHeartbeats 3200000 in
theorem rpget_e0short (w : World) (g : Nat) (s : Wire.St) (h : Sc w g 40 s) (hfi : s.fine) (N : List UInt8) (O K I : Int) (Tx : List UInt8) (s' : Wire.St) (hN : Preds.getN s = N) (hO : Preds.getO s = O) (hK : Preds.getK s = K) (hI : Preds.getI s = I) (hTx : Preds.getT s = Tx) (hs' : Preds.getS s = s') (hE : s.textV 16 = []) (hv : Preds.rawO s = 0) (K0 I0 : Int) (T0 : List UInt8) (hK0 : Vals.getK (Preds.behind s) = K0) (hI0 : Vals.getI (Preds.behind s) = I0) (hT0 : Vals.getT (Preds.behind s) = T0) (hl : T0.length ≤ 64) (hc : T0.length ≤ 32) :
    Calls Try.prog 20 #[.pointer (some ⟨g, 0, none⟩)] w (Reads w g 40 (.agg #[.string ⟨N.toArray⟩, .int .i64 O, .int .i64 K, .int .i64 I, .string ⟨Tx.toArray⟩]) s') := by
  have HV8 : Hid ((Preds.nameS s).uptoV 8 = 0) := hv
  have eN : Hid (Preds.nameS s = (s.textS 16).fail 3) := by show _ = _; unfold Preds.nameS; rw [if_pos hE]
  have eO : Hid (Preds.behind s = ((Preds.nameS s).uptoS 8).fail 3) := by show _ = _; unfold Preds.behind Preds.opS; rw [HV8.out]; rfl
  have eS : Hid (Preds.getS s = Vals.getS (Preds.behind s)) := by
    show _ = _
    unfold Preds.getS
    rw [hv, if_neg (by omega)]
    unfold Preds.sideS
    rw [hK0, hT0, if_neg (by unfold Preds.wrong; simp [hc] <;> omega)]
  have HG : Hid ((Vals.getS (Preds.behind s)).err = 0 → s.textV 16 = N ∧ 0 = O ∧ K0 = K ∧ I0 = I ∧ T0 = Tx) := fun hz => by
    have hz' : (Preds.getS s).err = 0 := by rw [eS.out]; exact hz
    obtain ⟨g1, g2, g3, g4, g5⟩ := Preds.get_good s hz'
    refine ⟨g1.symm.trans hN, ?_, ?_, ?_, ?_⟩
    · rw [← hO, g2, hv]; rfl
    · rw [← hK, g3]; unfold Preds.rawK; rw [hv]; rw [if_neg (by omega)]; exact hK0.symm
    · rw [← hI, g4]; unfold Preds.rawI; rw [hv]; rw [if_neg (by omega)]; exact hI0.symm
    · rw [← hTx, g5]; unfold Preds.rawT; rw [hv]; rw [if_neg (by omega)]; exact hT0.symm
  have HBD : Hid ((Vals.getS (Preds.behind s)).err ≠ 0 → [] = N ∧ 0 = O ∧ 0 = K ∧ 0 = I ∧ [] = Tx) := fun hz => by
    have hz' : (Preds.getS s).err ≠ 0 := by rw [eS.out]; exact hz
    obtain ⟨g1, g2, g3, g4, g5⟩ := Preds.get_bad s hz'
    exact ⟨g1.symm.trans hN, g2.symm.trans hO, g3.symm.trans hK, g4.symm.trans hI, g5.symm.trans hTx⟩
  obtain rfl := eS.out.symm.trans hs'
  have fN := Lib.hid (Preds.nameS_fine hfi)
  have fO : Hid ((Preds.behind s).fine) := Preds.opS_fine (Preds.nameS_fine hfi)
  have fT := Lib.hid (Wire.St.textS_fine hfi 16)
  have fU := Lib.hid (Wire.St.uptoS_fine fN.out 8)
  have fV := Lib.hid (Vals.getS_fine fO.out)
  have hx := fun w0 h0 => refText_at w0 g s h0 hfi 16 (by decide) (by decide)
  rw [hE] at hx HG
  have HSD := fun w0 h0 => rvget_at w0 g (Preds.behind s) h0 fO.out K0 I0 T0 _ hK0 hI0 hT0 rfl
  have ec : decide ((32 : Int) < (T0.length : Int)) = false := by simp; omega
  clear hK0 hI0 hT0 hc
  clear hv hN hO hK hI hTx hs' eS hE
  have hg := h.lt
  obtain ⟨hB, hb0⟩ := box5 w 25 (.string ⟨#[]⟩) (.int .i64 0) (.int .i64 0) (.int .i64 0) (.string ⟨#[]⟩)
  have h0 := h.below hb0
  go_enter Try.func20, Try.ntmps20
  go_wp2_with fail
  generalize w.alloc (.cells #[.string ⟨#[]⟩, .int .i64 0, .int .i64 0, .int .i64 0, .string ⟨#[]⟩] 25) = w0 at *
  refine (hx w0 h0).mono ?_
  rintro e w1 ⟨rfl, h1, hT1⟩
  have hR1 := hT1.blk hB (by omega)
  have hT1w := (Touch.of_below (g := g) hb0).trans hT1
  clear h h0 hB hb0 hT1 hx
  go_wp2_with fail
  obtain ⟨hC2, hb2⟩ := box5 w1 25 (.string ⟨#[]⟩) (.int .i64 0) (.int .i64 0) (.int .i64 0) (.string ⟨#[]⟩)
  have hgw1 : w.heap.size ≤ w1.heap.size := hT1w.size
  have hne : w.heap.size ≠ w1.heap.size := by have := hR1.lt; omega
  have hgv : g ≠ w1.heap.size := by omega
  have h2 := h1.below hb2
  have hR2 := hR1.below hb2 hR1.lt
  have hT2w := hT1w.trans (Touch.of_below (g := g) hb2)
  clear h1 hR1 hT1w hb2
  generalize w1.heap.size = gc at *
  generalize w1.alloc (.cells #[.string ⟨#[]⟩, .int .i64 0, .int .i64 0, .int .i64 0, .string ⟨#[]⟩] 25) = w2 at *
  refine (refFail_at w2 g _ h2 fT.out 3).mono ?_
  rintro e w3 ⟨rfl, h3, hT3⟩
  have hC3 := hT3.blk hC2 (by omega)
  have hR3 := hT3.blk hR2 (by omega)
  have hT3w := hT2w.trans hT3
  clear hC2 hR2 hT2w hT3 h2
  go_wp2_with fail
  replace h3 : Sc w3 g 40 (Preds.nameS s) := by rw [eN.out]; exact h3
  refine (refUpto_is w3 g (Preds.nameS s) _ 0 h3 fN.out 8 (by decide) (by decide) HV8.out rfl).mono ?_
  rintro e w4 ⟨rfl, h4, hT4⟩
  have hC4 := hT4.blk hC3 (by omega)
  have hR4 := hT4.blk hR3 (by omega)
  have hT4w := hT3w.trans hT4
  clear hC3 hR3 hT3w hT4 h3
  obtain ⟨d0, d1, d2, d3, d4, f0, f1, f2, f3, f4⟩ := blk5 hC4
  have hC5 := hC4.put 1 (.int .i64 0)
  simp only [List.setIfInBounds_toArray, List.set_cons_zero, List.set_cons_succ] at hC5
  have h5 := h4.farN hC4 (noByte5 _ _ _ _ _) hgv 1 (.int .i64 0)
  have hT5w := hT4w.new_ (j := 1) (v := .int .i64 0) hgw1
  have hR5 := hR4.far (p := ⟨gc, 1, none⟩) hne (.int .i64 0)
  clear hC4 hT4w hR4 h4
  go_wp2_with fail
  clear d0 d1 d2 d3 d4 f0 f1 f2 f3 f4
  generalize w4.setCell ⟨gc, 1, none⟩ (.int .i64 0) = w5 at *
  refine (refFail_at w5 g _ h5 fU.out 3).mono ?_
  rintro e w6 ⟨rfl, h6, hT6⟩
  have hC6 := hT6.blk hC5 (by omega)
  have hR6 := hT6.blk hR5 (by omega)
  have hT6w := hT5w.trans hT6
  clear hC5 hR5 hT5w hT6 h5
  obtain ⟨d0, d1, d2, d3, d4, _, _, _, _, _⟩ := blk5 hC6
  go_wp2_with fail
  clear d0 d1 d2 d3 d4
  replace h6 : Sc w6 g 40 (Preds.behind s) := by rw [eO.out]; exact h6
  refine (HSD w6 h6).mono ?_
  rintro e w7 ⟨rfl, h7, hT7⟩
  have hC7 := hT7.blk hC6 (by omega)
  have hR7 := hT7.blk hR6 (by omega)
  have hT7w := hT6w.trans hT7
  clear hC6 hR6 hT6w hT7 h6
  clear HSD
  obtain ⟨d0, d1, d2, d3, d4, f0, f1, f2, f3, f4⟩ := blk5 hC7
  have hC8 := hC7.setV_ K0 I0 ⟨T0.toArray⟩
  have h8 := h7.setV_ hC7 (noByte5 _ _ _ _ _) hgv K0 I0 ⟨T0.toArray⟩
  have hT8w := hT7w.setV_ hgw1 K0 I0 ⟨T0.toArray⟩
  have hR8 := hR7.farV hne K0 I0 ⟨T0.toArray⟩
  clear hC7 hT7w hR7 h7
  unfold setV at hC8 h8 hT8w hR8
  obtain ⟨A', n', cap', hG, hG'⟩ := h8
  have h8 := Sc.intro hG hG'
  obtain ⟨_, s1, _, _⟩ := blk2 hG
  obtain ⟨r0, r1, r2, r3, r4, k0, k1, k2, k3, k4⟩ := blk5 hR8
  obtain ⟨x0, x1, x2, x3, x4, _, _, _, _, _⟩ := blk5 hC8
  clear hC8
  clear hG hG'
  by_cases hz : (Vals.getS (Preds.behind s)).err = 0
  · have HZ : Hid ((Vals.getS (Preds.behind s)).err = 0) := hz
    rw [hz] at s1
    obtain ⟨HN', rfl, rfl, rfl, rfl⟩ := HG.out hz
    subst HN'
    clear hz HG HBD
    go_wp2_with fail
    refine bodyPost_ret (v := .agg #[.string ⟨#[]⟩, .int .i64 0, .int .i64 K0, .int .i64 I0, .string ⟨T0.toArray⟩]) (by simp [results, Try.results20, go_sem, r0, r1, r2, r3, r4]) rfl ?_
    exact ⟨rfl, h8.setP_ hR8 (noByte5 _ _ _ _ _) (by omega) _ _ _ _ _, hT8w.setP_ (Nat.le_refl _) _ _ _ _ _⟩
  · have HZ : Hid ((Vals.getS (Preds.behind s)).err ≠ 0) := hz
    have hd : (((Vals.getS (Preds.behind s)).err) != 0) = true := by simpa using hz
    obtain ⟨rfl, rfl, rfl, rfl, rfl⟩ := HBD.out hz
    clear hz HG HBD
    go_wp2_with fail
    refine bodyPost_ret (v := .agg #[.string ⟨#[]⟩, .int .i64 0, .int .i64 0, .int .i64 0, .string ⟨#[]⟩]) (by simp [results, Try.results20, go_sem, r0, r1, r2, r3, r4]) rfl ?_
    exact ⟨rfl, h8.setP_ hR8 (noByte5 _ _ _ _ _) (by omega) _ _ _ _ _, hT8w.setP_ (Nat.le_refl _) _ _ _ _ _⟩
set_option maxRecDepth 100000 in
set_option maxHeartbeats 3200000 in
theorem rpget_e7pre (w : World) (g : Nat) (s : Wire.St) (h : Sc w g 40 s) (hfi : s.fine) (N : List UInt8) (O K I : Int) (Tx : List UInt8) (s' : Wire.St) (hN : Preds.getN s = N) (hO : Preds.getO s = O) (hK : Preds.getK s = K) (hI : Preds.getI s = I) (hTx : Preds.getT s = Tx) (hs' : Preds.getS s = s') (hE : s.textV 16 = []) (hv : Preds.rawO s = 7) (K0 I0 : Int) (T0 : List UInt8) (hK0 : Vals.getK (Preds.behind s) = K0) (hI0 : Vals.getI (Preds.behind s) = I0) (hT0 : Vals.getT (Preds.behind s) = T0) (_hl : T0.length ≤ 64) (hc : K0 ≠ 2) :
    Calls Try.prog 20 #[.pointer (some ⟨g, 0, none⟩)] w (Reads w g 40 (.agg #[.string ⟨N.toArray⟩, .int .i64 O, .int .i64 K, .int .i64 I, .string ⟨Tx.toArray⟩]) s') := by
  have HV8 : Hid ((Preds.nameS s).uptoV 8 = 7) := hv
  have eN : Hid (Preds.nameS s = (s.textS 16).fail 3) := by show _ = _; unfold Preds.nameS; rw [if_pos hE]
  have eO : Hid (Preds.behind s = (Preds.nameS s).uptoS 8) := by show _ = _; unfold Preds.behind Preds.opS; rw [HV8.out]; rfl
  have eS : Hid (Preds.getS s = (Vals.getS (Preds.behind s)).fail 3) := by
    show _ = _
    unfold Preds.getS
    rw [hv, if_neg (by omega)]
    unfold Preds.sideS
    rw [hK0, hT0, if_pos (by unfold Preds.wrong; simp [hc])]
  have HG : Hid (((Vals.getS (Preds.behind s)).fail 3).err = 0 → s.textV 16 = N ∧ 7 = O ∧ K0 = K ∧ I0 = I ∧ T0 = Tx) := fun hz => by
    have hz' : (Preds.getS s).err = 0 := by rw [eS.out]; exact hz
    obtain ⟨g1, g2, g3, g4, g5⟩ := Preds.get_good s hz'
    refine ⟨g1.symm.trans hN, ?_, ?_, ?_, ?_⟩
    · rw [← hO, g2, hv]; rfl
    · rw [← hK, g3]; unfold Preds.rawK; rw [hv]; rw [if_neg (by omega)]; exact hK0.symm
    · rw [← hI, g4]; unfold Preds.rawI; rw [hv]; rw [if_neg (by omega)]; exact hI0.symm
    · rw [← hTx, g5]; unfold Preds.rawT; rw [hv]; rw [if_neg (by omega)]; exact hT0.symm
  have HBD : Hid (((Vals.getS (Preds.behind s)).fail 3).err ≠ 0 → [] = N ∧ 0 = O ∧ 0 = K ∧ 0 = I ∧ [] = Tx) := fun hz => by
    have hz' : (Preds.getS s).err ≠ 0 := by rw [eS.out]; exact hz
    obtain ⟨g1, g2, g3, g4, g5⟩ := Preds.get_bad s hz'
    exact ⟨g1.symm.trans hN, g2.symm.trans hO, g3.symm.trans hK, g4.symm.trans hI, g5.symm.trans hTx⟩
  obtain rfl := eS.out.symm.trans hs'
  have fN := Lib.hid (Preds.nameS_fine hfi)
  have fO : Hid ((Preds.behind s).fine) := Preds.opS_fine (Preds.nameS_fine hfi)
  have fT := Lib.hid (Wire.St.textS_fine hfi 16)
  have fU := Lib.hid (Wire.St.uptoS_fine fN.out 8)
  have fV := Lib.hid (Vals.getS_fine fO.out)
  have hx := fun w0 h0 => refText_at w0 g s h0 hfi 16 (by decide) (by decide)
  rw [hE] at hx HG
  have HSD := fun w0 h0 => rvget_at w0 g (Preds.behind s) h0 fO.out K0 I0 T0 _ hK0 hI0 hT0 rfl
  have ec : (K0 != 2) = true := by simpa using hc
  clear hK0 hI0 hT0 hc
  clear hv hN hO hK hI hTx hs' eS hE
  have hg := h.lt
  obtain ⟨hB, hb0⟩ := box5 w 25 (.string ⟨#[]⟩) (.int .i64 0) (.int .i64 0) (.int .i64 0) (.string ⟨#[]⟩)
  have h0 := h.below hb0
  go_enter Try.func20, Try.ntmps20
  go_wp2_with fail
  generalize w.alloc (.cells #[.string ⟨#[]⟩, .int .i64 0, .int .i64 0, .int .i64 0, .string ⟨#[]⟩] 25) = w0 at *
  refine (hx w0 h0).mono ?_
  rintro e w1 ⟨rfl, h1, hT1⟩
  have hR1 := hT1.blk hB (by omega)
  have hT1w := (Touch.of_below (g := g) hb0).trans hT1
  clear h h0 hB hb0 hT1 hx
  go_wp2_with fail
  obtain ⟨hC2, hb2⟩ := box5 w1 25 (.string ⟨#[]⟩) (.int .i64 0) (.int .i64 0) (.int .i64 0) (.string ⟨#[]⟩)
  have hgw1 : w.heap.size ≤ w1.heap.size := hT1w.size
  have hne : w.heap.size ≠ w1.heap.size := by have := hR1.lt; omega
  have hgv : g ≠ w1.heap.size := by omega
  have h2 := h1.below hb2
  have hR2 := hR1.below hb2 hR1.lt
  have hT2w := hT1w.trans (Touch.of_below (g := g) hb2)
  clear h1 hR1 hT1w hb2
  generalize w1.heap.size = gc at *
  generalize w1.alloc (.cells #[.string ⟨#[]⟩, .int .i64 0, .int .i64 0, .int .i64 0, .string ⟨#[]⟩] 25) = w2 at *
  refine (refFail_at w2 g _ h2 fT.out 3).mono ?_
  rintro e w3 ⟨rfl, h3, hT3⟩
  have hC3 := hT3.blk hC2 (by omega)
  have hR3 := hT3.blk hR2 (by omega)
  have hT3w := hT2w.trans hT3
  clear hC2 hR2 hT2w hT3 h2
  go_wp2_with fail
  replace h3 : Sc w3 g 40 (Preds.nameS s) := by rw [eN.out]; exact h3
  refine (refUpto_is w3 g (Preds.nameS s) _ 7 h3 fN.out 8 (by decide) (by decide) HV8.out rfl).mono ?_
  rintro e w4 ⟨rfl, h4, hT4⟩
  have hC4 := hT4.blk hC3 (by omega)
  have hR4 := hT4.blk hR3 (by omega)
  have hT4w := hT3w.trans hT4
  clear hC3 hR3 hT3w hT4 h3
  obtain ⟨d0, d1, d2, d3, d4, f0, f1, f2, f3, f4⟩ := blk5 hC4
  have hC5 := hC4.put 1 (.int .i64 7)
  simp only [List.setIfInBounds_toArray, List.set_cons_zero, List.set_cons_succ] at hC5
  have h5 := h4.farN hC4 (noByte5 _ _ _ _ _) hgv 1 (.int .i64 7)
  have hT5w := hT4w.new_ (j := 1) (v := .int .i64 7) hgw1
  have hR5 := hR4.far (p := ⟨gc, 1, none⟩) hne (.int .i64 7)
  clear hC4 hT4w hR4 h4
  go_wp2_with fail
  clear d0 d1 d2 d3 d4 f0 f1 f2 f3 f4
  generalize w4.setCell ⟨gc, 1, none⟩ (.int .i64 7) = w5 at *
  replace h5 : Sc w5 g 40 (Preds.behind s) := by rw [eO.out]; exact h5
  refine (HSD w5 h5).mono ?_
  rintro e w6 ⟨rfl, h6, hT6⟩
  have hC6 := hT6.blk hC5 (by omega)
  have hR6 := hT6.blk hR5 (by omega)
  have hT6w := hT5w.trans hT6
  clear hC5 hR5 hT5w hT6 h5
  clear HSD
  obtain ⟨d0, d1, d2, d3, d4, f0, f1, f2, f3, f4⟩ := blk5 hC6
  have hC7 := hC6.setV_ K0 I0 ⟨T0.toArray⟩
  have h7 := h6.setV_ hC6 (noByte5 _ _ _ _ _) hgv K0 I0 ⟨T0.toArray⟩
  have hT7w := hT6w.setV_ hgw1 K0 I0 ⟨T0.toArray⟩
  have hR7 := hR6.farV hne K0 I0 ⟨T0.toArray⟩
  clear hC6 hT6w hR6 h6
  unfold setV at hC7 h7 hT7w hR7
  go_wp2_with fail
  clear d0 d1 d2 d3 d4 f0 f1 f2 f3 f4
  generalize ((w6.setCell ⟨gc, 2, none⟩ (.int .i64 K0)).setCell ⟨gc, 3, none⟩ (.int .i64 I0)).setCell ⟨gc, 4, none⟩ (.string ⟨T0.toArray⟩) = w7 at *
  refine (refFail_at w7 g _ h7 fV.out 3).mono ?_
  rintro e w8 ⟨rfl, h8, hT8⟩
  have hC8 := hT8.blk hC7 (by omega)
  have hR8 := hT8.blk hR7 (by omega)
  have hT8w := hT7w.trans hT8
  clear hC7 hR7 hT7w hT8 h7
  obtain ⟨A', n', cap', hG, hG'⟩ := h8
  have h8 := Sc.intro hG hG'
  obtain ⟨_, s1, _, _⟩ := blk2 hG
  obtain ⟨r0, r1, r2, r3, r4, k0, k1, k2, k3, k4⟩ := blk5 hR8
  obtain ⟨x0, x1, x2, x3, x4, _, _, _, _, _⟩ := blk5 hC8
  clear hC8
  clear hG hG'
  by_cases hz : ((Vals.getS (Preds.behind s)).fail 3).err = 0
  · have HZ : Hid (((Vals.getS (Preds.behind s)).fail 3).err = 0) := hz
    rw [hz] at s1
    obtain ⟨HN', rfl, rfl, rfl, rfl⟩ := HG.out hz
    subst HN'
    clear hz HG HBD
    go_wp2_with fail
    refine bodyPost_ret (v := .agg #[.string ⟨#[]⟩, .int .i64 7, .int .i64 K0, .int .i64 I0, .string ⟨T0.toArray⟩]) (by simp [results, Try.results20, go_sem, r0, r1, r2, r3, r4]) rfl ?_
    exact ⟨rfl, h8.setP_ hR8 (noByte5 _ _ _ _ _) (by omega) _ _ _ _ _, hT8w.setP_ (Nat.le_refl _) _ _ _ _ _⟩
  · have HZ : Hid (((Vals.getS (Preds.behind s)).fail 3).err ≠ 0) := hz
    have hd : ((((Vals.getS (Preds.behind s)).fail 3).err) != 0) = true := by simpa using hz
    obtain ⟨rfl, rfl, rfl, rfl, rfl⟩ := HBD.out hz
    clear hz HG HBD
    go_wp2_with fail
    refine bodyPost_ret (v := .agg #[.string ⟨#[]⟩, .int .i64 0, .int .i64 0, .int .i64 0, .string ⟨#[]⟩]) (by simp [results, Try.results20, go_sem, r0, r1, r2, r3, r4]) rfl ?_
    exact ⟨rfl, h8.setP_ hR8 (noByte5 _ _ _ _ _) (by omega) _ _ _ _ _, hT8w.setP_ (Nat.le_refl _) _ _ _ _ _⟩
set_option maxRecDepth 100000 in
set_option maxHeartbeats 3200000 in
theorem rpget_e7long (w : World) (g : Nat) (s : Wire.St) (h : Sc w g 40 s) (hfi : s.fine) (N : List UInt8) (O K I : Int) (Tx : List UInt8) (s' : Wire.St) (hN : Preds.getN s = N) (hO : Preds.getO s = O) (hK : Preds.getK s = K) (hI : Preds.getI s = I) (hTx : Preds.getT s = Tx) (hs' : Preds.getS s = s') (hE : s.textV 16 = []) (hv : Preds.rawO s = 7) (I0 : Int) (T0 : List UInt8) (hK0 : Vals.getK (Preds.behind s) = 2) (hI0 : Vals.getI (Preds.behind s) = I0) (hT0 : Vals.getT (Preds.behind s) = T0) (hl : T0.length ≤ 64) (hc : 32 < T0.length) :
    Calls Try.prog 20 #[.pointer (some ⟨g, 0, none⟩)] w (Reads w g 40 (.agg #[.string ⟨N.toArray⟩, .int .i64 O, .int .i64 K, .int .i64 I, .string ⟨Tx.toArray⟩]) s') := by
  have HV8 : Hid ((Preds.nameS s).uptoV 8 = 7) := hv
  have eN : Hid (Preds.nameS s = (s.textS 16).fail 3) := by show _ = _; unfold Preds.nameS; rw [if_pos hE]
  have eO : Hid (Preds.behind s = (Preds.nameS s).uptoS 8) := by show _ = _; unfold Preds.behind Preds.opS; rw [HV8.out]; rfl
  have eS : Hid (Preds.getS s = (Vals.getS (Preds.behind s)).fail 3) := by
    show _ = _
    unfold Preds.getS
    rw [hv, if_neg (by omega)]
    unfold Preds.sideS
    rw [hK0, hT0, if_pos (by unfold Preds.wrong; simp [hc])]
  have HG : Hid (((Vals.getS (Preds.behind s)).fail 3).err = 0 → s.textV 16 = N ∧ 7 = O ∧ 2 = K ∧ I0 = I ∧ T0 = Tx) := fun hz => by
    have hz' : (Preds.getS s).err = 0 := by rw [eS.out]; exact hz
    obtain ⟨g1, g2, g3, g4, g5⟩ := Preds.get_good s hz'
    refine ⟨g1.symm.trans hN, ?_, ?_, ?_, ?_⟩
    · rw [← hO, g2, hv]; rfl
    · rw [← hK, g3]; unfold Preds.rawK; rw [hv]; rw [if_neg (by omega)]; exact hK0.symm
    · rw [← hI, g4]; unfold Preds.rawI; rw [hv]; rw [if_neg (by omega)]; exact hI0.symm
    · rw [← hTx, g5]; unfold Preds.rawT; rw [hv]; rw [if_neg (by omega)]; exact hT0.symm
  have HBD : Hid (((Vals.getS (Preds.behind s)).fail 3).err ≠ 0 → [] = N ∧ 0 = O ∧ 0 = K ∧ 0 = I ∧ [] = Tx) := fun hz => by
    have hz' : (Preds.getS s).err ≠ 0 := by rw [eS.out]; exact hz
    obtain ⟨g1, g2, g3, g4, g5⟩ := Preds.get_bad s hz'
    exact ⟨g1.symm.trans hN, g2.symm.trans hO, g3.symm.trans hK, g4.symm.trans hI, g5.symm.trans hTx⟩
  obtain rfl := eS.out.symm.trans hs'
  have fN := Lib.hid (Preds.nameS_fine hfi)
  have fO : Hid ((Preds.behind s).fine) := Preds.opS_fine (Preds.nameS_fine hfi)
  have fT := Lib.hid (Wire.St.textS_fine hfi 16)
  have fU := Lib.hid (Wire.St.uptoS_fine fN.out 8)
  have fV := Lib.hid (Vals.getS_fine fO.out)
  have hx := fun w0 h0 => refText_at w0 g s h0 hfi 16 (by decide) (by decide)
  rw [hE] at hx HG
  have HSD := fun w0 h0 => rvget_at w0 g (Preds.behind s) h0 fO.out 2 I0 T0 _ hK0 hI0 hT0 rfl
  have ec : decide ((32 : Int) < (T0.length : Int)) = true := by simp; omega
  clear hK0 hI0 hT0 hc
  clear hv hN hO hK hI hTx hs' eS hE
  have hg := h.lt
  obtain ⟨hB, hb0⟩ := box5 w 25 (.string ⟨#[]⟩) (.int .i64 0) (.int .i64 0) (.int .i64 0) (.string ⟨#[]⟩)
  have h0 := h.below hb0
  go_enter Try.func20, Try.ntmps20
  go_wp2_with fail
  generalize w.alloc (.cells #[.string ⟨#[]⟩, .int .i64 0, .int .i64 0, .int .i64 0, .string ⟨#[]⟩] 25) = w0 at *
  refine (hx w0 h0).mono ?_
  rintro e w1 ⟨rfl, h1, hT1⟩
  have hR1 := hT1.blk hB (by omega)
  have hT1w := (Touch.of_below (g := g) hb0).trans hT1
  clear h h0 hB hb0 hT1 hx
  go_wp2_with fail
  obtain ⟨hC2, hb2⟩ := box5 w1 25 (.string ⟨#[]⟩) (.int .i64 0) (.int .i64 0) (.int .i64 0) (.string ⟨#[]⟩)
  have hgw1 : w.heap.size ≤ w1.heap.size := hT1w.size
  have hne : w.heap.size ≠ w1.heap.size := by have := hR1.lt; omega
  have hgv : g ≠ w1.heap.size := by omega
  have h2 := h1.below hb2
  have hR2 := hR1.below hb2 hR1.lt
  have hT2w := hT1w.trans (Touch.of_below (g := g) hb2)
  clear h1 hR1 hT1w hb2
  generalize w1.heap.size = gc at *
  generalize w1.alloc (.cells #[.string ⟨#[]⟩, .int .i64 0, .int .i64 0, .int .i64 0, .string ⟨#[]⟩] 25) = w2 at *
  refine (refFail_at w2 g _ h2 fT.out 3).mono ?_
  rintro e w3 ⟨rfl, h3, hT3⟩
  have hC3 := hT3.blk hC2 (by omega)
  have hR3 := hT3.blk hR2 (by omega)
  have hT3w := hT2w.trans hT3
  clear hC2 hR2 hT2w hT3 h2
  go_wp2_with fail
  replace h3 : Sc w3 g 40 (Preds.nameS s) := by rw [eN.out]; exact h3
  refine (refUpto_is w3 g (Preds.nameS s) _ 7 h3 fN.out 8 (by decide) (by decide) HV8.out rfl).mono ?_
  rintro e w4 ⟨rfl, h4, hT4⟩
  have hC4 := hT4.blk hC3 (by omega)
  have hR4 := hT4.blk hR3 (by omega)
  have hT4w := hT3w.trans hT4
  clear hC3 hR3 hT3w hT4 h3
  obtain ⟨d0, d1, d2, d3, d4, f0, f1, f2, f3, f4⟩ := blk5 hC4
  have hC5 := hC4.put 1 (.int .i64 7)
  simp only [List.setIfInBounds_toArray, List.set_cons_zero, List.set_cons_succ] at hC5
  have h5 := h4.farN hC4 (noByte5 _ _ _ _ _) hgv 1 (.int .i64 7)
  have hT5w := hT4w.new_ (j := 1) (v := .int .i64 7) hgw1
  have hR5 := hR4.far (p := ⟨gc, 1, none⟩) hne (.int .i64 7)
  clear hC4 hT4w hR4 h4
  go_wp2_with fail
  clear d0 d1 d2 d3 d4 f0 f1 f2 f3 f4
  generalize w4.setCell ⟨gc, 1, none⟩ (.int .i64 7) = w5 at *
  replace h5 : Sc w5 g 40 (Preds.behind s) := by rw [eO.out]; exact h5
  refine (HSD w5 h5).mono ?_
  rintro e w6 ⟨rfl, h6, hT6⟩
  have hC6 := hT6.blk hC5 (by omega)
  have hR6 := hT6.blk hR5 (by omega)
  have hT6w := hT5w.trans hT6
  clear hC5 hR5 hT5w hT6 h5
  clear HSD
  obtain ⟨d0, d1, d2, d3, d4, f0, f1, f2, f3, f4⟩ := blk5 hC6
  have hC7 := hC6.setV_ 2 I0 ⟨T0.toArray⟩
  have h7 := h6.setV_ hC6 (noByte5 _ _ _ _ _) hgv 2 I0 ⟨T0.toArray⟩
  have hT7w := hT6w.setV_ hgw1 2 I0 ⟨T0.toArray⟩
  have hR7 := hR6.farV hne 2 I0 ⟨T0.toArray⟩
  clear hC6 hT6w hR6 h6
  unfold setV at hC7 h7 hT7w hR7
  go_wp2_with fail
  clear d0 d1 d2 d3 d4 f0 f1 f2 f3 f4
  generalize ((w6.setCell ⟨gc, 2, none⟩ (.int .i64 2)).setCell ⟨gc, 3, none⟩ (.int .i64 I0)).setCell ⟨gc, 4, none⟩ (.string ⟨T0.toArray⟩) = w7 at *
  refine (refFail_at w7 g _ h7 fV.out 3).mono ?_
  rintro e w8 ⟨rfl, h8, hT8⟩
  have hC8 := hT8.blk hC7 (by omega)
  have hR8 := hT8.blk hR7 (by omega)
  have hT8w := hT7w.trans hT8
  clear hC7 hR7 hT7w hT8 h7
  obtain ⟨A', n', cap', hG, hG'⟩ := h8
  have h8 := Sc.intro hG hG'
  obtain ⟨_, s1, _, _⟩ := blk2 hG
  obtain ⟨r0, r1, r2, r3, r4, k0, k1, k2, k3, k4⟩ := blk5 hR8
  obtain ⟨x0, x1, x2, x3, x4, _, _, _, _, _⟩ := blk5 hC8
  clear hC8
  clear hG hG'
  by_cases hz : ((Vals.getS (Preds.behind s)).fail 3).err = 0
  · have HZ : Hid (((Vals.getS (Preds.behind s)).fail 3).err = 0) := hz
    rw [hz] at s1
    obtain ⟨HN', rfl, rfl, rfl, rfl⟩ := HG.out hz
    subst HN'
    clear hz HG HBD
    go_wp2_with fail
    refine bodyPost_ret (v := .agg #[.string ⟨#[]⟩, .int .i64 7, .int .i64 2, .int .i64 I0, .string ⟨T0.toArray⟩]) (by simp [results, Try.results20, go_sem, r0, r1, r2, r3, r4]) rfl ?_
    exact ⟨rfl, h8.setP_ hR8 (noByte5 _ _ _ _ _) (by omega) _ _ _ _ _, hT8w.setP_ (Nat.le_refl _) _ _ _ _ _⟩
  · have HZ : Hid (((Vals.getS (Preds.behind s)).fail 3).err ≠ 0) := hz
    have hd : ((((Vals.getS (Preds.behind s)).fail 3).err) != 0) = true := by simpa using hz
    obtain ⟨rfl, rfl, rfl, rfl, rfl⟩ := HBD.out hz
    clear hz HG HBD
    go_wp2_with fail
    refine bodyPost_ret (v := .agg #[.string ⟨#[]⟩, .int .i64 0, .int .i64 0, .int .i64 0, .string ⟨#[]⟩]) (by simp [results, Try.results20, go_sem, r0, r1, r2, r3, r4]) rfl ?_
    exact ⟨rfl, h8.setP_ hR8 (noByte5 _ _ _ _ _) (by omega) _ _ _ _ _, hT8w.setP_ (Nat.le_refl _) _ _ _ _ _⟩
set_option maxRecDepth 100000 in
set_option maxHeartbeats 3200000 in
theorem rpget_e7short (w : World) (g : Nat) (s : Wire.St) (h : Sc w g 40 s) (hfi : s.fine) (N : List UInt8) (O K I : Int) (Tx : List UInt8) (s' : Wire.St) (hN : Preds.getN s = N) (hO : Preds.getO s = O) (hK : Preds.getK s = K) (hI : Preds.getI s = I) (hTx : Preds.getT s = Tx) (hs' : Preds.getS s = s') (hE : s.textV 16 = []) (hv : Preds.rawO s = 7) (I0 : Int) (T0 : List UInt8) (hK0 : Vals.getK (Preds.behind s) = 2) (hI0 : Vals.getI (Preds.behind s) = I0) (hT0 : Vals.getT (Preds.behind s) = T0) (hl : T0.length ≤ 64) (hc : T0.length ≤ 32) :
    Calls Try.prog 20 #[.pointer (some ⟨g, 0, none⟩)] w (Reads w g 40 (.agg #[.string ⟨N.toArray⟩, .int .i64 O, .int .i64 K, .int .i64 I, .string ⟨Tx.toArray⟩]) s') := by
  have HV8 : Hid ((Preds.nameS s).uptoV 8 = 7) := hv
  have eN : Hid (Preds.nameS s = (s.textS 16).fail 3) := by show _ = _; unfold Preds.nameS; rw [if_pos hE]
  have eO : Hid (Preds.behind s = (Preds.nameS s).uptoS 8) := by show _ = _; unfold Preds.behind Preds.opS; rw [HV8.out]; rfl
  have eS : Hid (Preds.getS s = Vals.getS (Preds.behind s)) := by
    show _ = _
    unfold Preds.getS
    rw [hv, if_neg (by omega)]
    unfold Preds.sideS
    rw [hK0, hT0, if_neg (by unfold Preds.wrong; simp [hc] <;> omega)]
  have HG : Hid ((Vals.getS (Preds.behind s)).err = 0 → s.textV 16 = N ∧ 7 = O ∧ 2 = K ∧ I0 = I ∧ T0 = Tx) := fun hz => by
    have hz' : (Preds.getS s).err = 0 := by rw [eS.out]; exact hz
    obtain ⟨g1, g2, g3, g4, g5⟩ := Preds.get_good s hz'
    refine ⟨g1.symm.trans hN, ?_, ?_, ?_, ?_⟩
    · rw [← hO, g2, hv]; rfl
    · rw [← hK, g3]; unfold Preds.rawK; rw [hv]; rw [if_neg (by omega)]; exact hK0.symm
    · rw [← hI, g4]; unfold Preds.rawI; rw [hv]; rw [if_neg (by omega)]; exact hI0.symm
    · rw [← hTx, g5]; unfold Preds.rawT; rw [hv]; rw [if_neg (by omega)]; exact hT0.symm
  have HBD : Hid ((Vals.getS (Preds.behind s)).err ≠ 0 → [] = N ∧ 0 = O ∧ 0 = K ∧ 0 = I ∧ [] = Tx) := fun hz => by
    have hz' : (Preds.getS s).err ≠ 0 := by rw [eS.out]; exact hz
    obtain ⟨g1, g2, g3, g4, g5⟩ := Preds.get_bad s hz'
    exact ⟨g1.symm.trans hN, g2.symm.trans hO, g3.symm.trans hK, g4.symm.trans hI, g5.symm.trans hTx⟩
  obtain rfl := eS.out.symm.trans hs'
  have fN := Lib.hid (Preds.nameS_fine hfi)
  have fO : Hid ((Preds.behind s).fine) := Preds.opS_fine (Preds.nameS_fine hfi)
  have fT := Lib.hid (Wire.St.textS_fine hfi 16)
  have fU := Lib.hid (Wire.St.uptoS_fine fN.out 8)
  have fV := Lib.hid (Vals.getS_fine fO.out)
  have hx := fun w0 h0 => refText_at w0 g s h0 hfi 16 (by decide) (by decide)
  rw [hE] at hx HG
  have HSD := fun w0 h0 => rvget_at w0 g (Preds.behind s) h0 fO.out 2 I0 T0 _ hK0 hI0 hT0 rfl
  have ec : decide ((32 : Int) < (T0.length : Int)) = false := by simp; omega
  clear hK0 hI0 hT0 hc
  clear hv hN hO hK hI hTx hs' eS hE
  have hg := h.lt
  obtain ⟨hB, hb0⟩ := box5 w 25 (.string ⟨#[]⟩) (.int .i64 0) (.int .i64 0) (.int .i64 0) (.string ⟨#[]⟩)
  have h0 := h.below hb0
  go_enter Try.func20, Try.ntmps20
  go_wp2_with fail
  generalize w.alloc (.cells #[.string ⟨#[]⟩, .int .i64 0, .int .i64 0, .int .i64 0, .string ⟨#[]⟩] 25) = w0 at *
  refine (hx w0 h0).mono ?_
  rintro e w1 ⟨rfl, h1, hT1⟩
  have hR1 := hT1.blk hB (by omega)
  have hT1w := (Touch.of_below (g := g) hb0).trans hT1
  clear h h0 hB hb0 hT1 hx
  go_wp2_with fail
  obtain ⟨hC2, hb2⟩ := box5 w1 25 (.string ⟨#[]⟩) (.int .i64 0) (.int .i64 0) (.int .i64 0) (.string ⟨#[]⟩)
  have hgw1 : w.heap.size ≤ w1.heap.size := hT1w.size
  have hne : w.heap.size ≠ w1.heap.size := by have := hR1.lt; omega
  have hgv : g ≠ w1.heap.size := by omega
  have h2 := h1.below hb2
  have hR2 := hR1.below hb2 hR1.lt
  have hT2w := hT1w.trans (Touch.of_below (g := g) hb2)
  clear h1 hR1 hT1w hb2
  generalize w1.heap.size = gc at *
  generalize w1.alloc (.cells #[.string ⟨#[]⟩, .int .i64 0, .int .i64 0, .int .i64 0, .string ⟨#[]⟩] 25) = w2 at *
  refine (refFail_at w2 g _ h2 fT.out 3).mono ?_
  rintro e w3 ⟨rfl, h3, hT3⟩
  have hC3 := hT3.blk hC2 (by omega)
  have hR3 := hT3.blk hR2 (by omega)
  have hT3w := hT2w.trans hT3
  clear hC2 hR2 hT2w hT3 h2
  go_wp2_with fail
  replace h3 : Sc w3 g 40 (Preds.nameS s) := by rw [eN.out]; exact h3
  refine (refUpto_is w3 g (Preds.nameS s) _ 7 h3 fN.out 8 (by decide) (by decide) HV8.out rfl).mono ?_
  rintro e w4 ⟨rfl, h4, hT4⟩
  have hC4 := hT4.blk hC3 (by omega)
  have hR4 := hT4.blk hR3 (by omega)
  have hT4w := hT3w.trans hT4
  clear hC3 hR3 hT3w hT4 h3
  obtain ⟨d0, d1, d2, d3, d4, f0, f1, f2, f3, f4⟩ := blk5 hC4
  have hC5 := hC4.put 1 (.int .i64 7)
  simp only [List.setIfInBounds_toArray, List.set_cons_zero, List.set_cons_succ] at hC5
  have h5 := h4.farN hC4 (noByte5 _ _ _ _ _) hgv 1 (.int .i64 7)
  have hT5w := hT4w.new_ (j := 1) (v := .int .i64 7) hgw1
  have hR5 := hR4.far (p := ⟨gc, 1, none⟩) hne (.int .i64 7)
  clear hC4 hT4w hR4 h4
  go_wp2_with fail
  clear d0 d1 d2 d3 d4 f0 f1 f2 f3 f4
  generalize w4.setCell ⟨gc, 1, none⟩ (.int .i64 7) = w5 at *
  replace h5 : Sc w5 g 40 (Preds.behind s) := by rw [eO.out]; exact h5
  refine (HSD w5 h5).mono ?_
  rintro e w6 ⟨rfl, h6, hT6⟩
  have hC6 := hT6.blk hC5 (by omega)
  have hR6 := hT6.blk hR5 (by omega)
  have hT6w := hT5w.trans hT6
  clear hC5 hR5 hT5w hT6 h5
  clear HSD
  obtain ⟨d0, d1, d2, d3, d4, f0, f1, f2, f3, f4⟩ := blk5 hC6
  have hC7 := hC6.setV_ 2 I0 ⟨T0.toArray⟩
  have h7 := h6.setV_ hC6 (noByte5 _ _ _ _ _) hgv 2 I0 ⟨T0.toArray⟩
  have hT7w := hT6w.setV_ hgw1 2 I0 ⟨T0.toArray⟩
  have hR7 := hR6.farV hne 2 I0 ⟨T0.toArray⟩
  clear hC6 hT6w hR6 h6
  unfold setV at hC7 h7 hT7w hR7
  obtain ⟨A', n', cap', hG, hG'⟩ := h7
  have h7 := Sc.intro hG hG'
  obtain ⟨_, s1, _, _⟩ := blk2 hG
  obtain ⟨r0, r1, r2, r3, r4, k0, k1, k2, k3, k4⟩ := blk5 hR7
  obtain ⟨x0, x1, x2, x3, x4, _, _, _, _, _⟩ := blk5 hC7
  clear hC7
  clear hG hG'
  by_cases hz : (Vals.getS (Preds.behind s)).err = 0
  · have HZ : Hid ((Vals.getS (Preds.behind s)).err = 0) := hz
    rw [hz] at s1
    obtain ⟨HN', rfl, rfl, rfl, rfl⟩ := HG.out hz
    subst HN'
    clear hz HG HBD
    go_wp2_with fail
    refine bodyPost_ret (v := .agg #[.string ⟨#[]⟩, .int .i64 7, .int .i64 2, .int .i64 I0, .string ⟨T0.toArray⟩]) (by simp [results, Try.results20, go_sem, r0, r1, r2, r3, r4]) rfl ?_
    exact ⟨rfl, h7.setP_ hR7 (noByte5 _ _ _ _ _) (by omega) _ _ _ _ _, hT7w.setP_ (Nat.le_refl _) _ _ _ _ _⟩
  · have HZ : Hid ((Vals.getS (Preds.behind s)).err ≠ 0) := hz
    have hd : (((Vals.getS (Preds.behind s)).err) != 0) = true := by simpa using hz
    obtain ⟨rfl, rfl, rfl, rfl, rfl⟩ := HBD.out hz
    clear hz HG HBD
    go_wp2_with fail
    refine bodyPost_ret (v := .agg #[.string ⟨#[]⟩, .int .i64 0, .int .i64 0, .int .i64 0, .string ⟨#[]⟩]) (by simp [results, Try.results20, go_sem, r0, r1, r2, r3, r4]) rfl ?_
    exact ⟨rfl, h7.setP_ hR7 (noByte5 _ _ _ _ _) (by omega) _ _ _ _ _, hT7w.setP_ (Nat.le_refl _) _ _ _ _ _⟩
set_option maxRecDepth 100000 in
set_option maxHeartbeats 3200000 in
theorem rpget_eqlong (w : World) (g : Nat) (s : Wire.St) (h : Sc w g 40 s) (hfi : s.fine) (N : List UInt8) (O K I : Int) (Tx : List UInt8) (s' : Wire.St) (hN : Preds.getN s = N) (hO : Preds.getO s = O) (hK : Preds.getK s = K) (hI : Preds.getI s = I) (hTx : Preds.getT s = Tx) (hs' : Preds.getS s = s') (hE : s.textV 16 = []) (q : Nat) (hq : 1 ≤ q) (hq2 : q ≤ 6) (hv : Preds.rawO s = q) (K0 I0 : Int) (T0 : List UInt8) (hK0 : Vals.getK (Preds.behind s) = K0) (hI0 : Vals.getI (Preds.behind s) = I0) (hT0 : Vals.getT (Preds.behind s) = T0) (hl : T0.length ≤ 64) (hc : 32 < T0.length) :
    Calls Try.prog 20 #[.pointer (some ⟨g, 0, none⟩)] w (Reads w g 40 (.agg #[.string ⟨N.toArray⟩, .int .i64 O, .int .i64 K, .int .i64 I, .string ⟨Tx.toArray⟩]) s') := by
  have HV8 : Hid ((Preds.nameS s).uptoV 8 = q) := hv
  have eN : Hid (Preds.nameS s = (s.textS 16).fail 3) := by show _ = _; unfold Preds.nameS; rw [if_pos hE]
  have eO : Hid (Preds.behind s = (Preds.nameS s).uptoS 8) := by show _ = _; unfold Preds.behind Preds.opS; rw [HV8.out]; rw [if_neg (by omega)]
  have eS : Hid (Preds.getS s = (Vals.getS (Preds.behind s)).fail 3) := by
    show _ = _
    unfold Preds.getS
    rw [hv, if_neg (by omega)]
    unfold Preds.sideS
    rw [hK0, hT0, if_pos (by unfold Preds.wrong; simp [hc])]
  have HG : Hid (((Vals.getS (Preds.behind s)).fail 3).err = 0 → s.textV 16 = N ∧ (q : Int) = O ∧ K0 = K ∧ I0 = I ∧ T0 = Tx) := fun hz => by
    have hz' : (Preds.getS s).err = 0 := by rw [eS.out]; exact hz
    obtain ⟨g1, g2, g3, g4, g5⟩ := Preds.get_good s hz'
    refine ⟨g1.symm.trans hN, ?_, ?_, ?_, ?_⟩
    · rw [← hO, g2, hv]
    · rw [← hK, g3]; unfold Preds.rawK; rw [hv]; rw [if_neg (by omega)]; exact hK0.symm
    · rw [← hI, g4]; unfold Preds.rawI; rw [hv]; rw [if_neg (by omega)]; exact hI0.symm
    · rw [← hTx, g5]; unfold Preds.rawT; rw [hv]; rw [if_neg (by omega)]; exact hT0.symm
  have HBD : Hid (((Vals.getS (Preds.behind s)).fail 3).err ≠ 0 → [] = N ∧ 0 = O ∧ 0 = K ∧ 0 = I ∧ [] = Tx) := fun hz => by
    have hz' : (Preds.getS s).err ≠ 0 := by rw [eS.out]; exact hz
    obtain ⟨g1, g2, g3, g4, g5⟩ := Preds.get_bad s hz'
    exact ⟨g1.symm.trans hN, g2.symm.trans hO, g3.symm.trans hK, g4.symm.trans hI, g5.symm.trans hTx⟩
  obtain rfl := eS.out.symm.trans hs'
  have fN := Lib.hid (Preds.nameS_fine hfi)
  have fO : Hid ((Preds.behind s).fine) := Preds.opS_fine (Preds.nameS_fine hfi)
  have fT := Lib.hid (Wire.St.textS_fine hfi 16)
  have fU := Lib.hid (Wire.St.uptoS_fine fN.out 8)
  have fV := Lib.hid (Vals.getS_fine fO.out)
  have hx := fun w0 h0 => refText_at w0 g s h0 hfi 16 (by decide) (by decide)
  rw [hE] at hx HG
  have HSD := fun w0 h0 => rvget_at w0 g (Preds.behind s) h0 fO.out K0 I0 T0 _ hK0 hI0 hT0 rfl
  have e8 : ((q : Int) != 8) = true := by simp; omega
  have e7 : ((q : Int) == 7) = false := by simp; omega
  have e0 : ((q : Int) == 0) = false := by simp; omega
  have hqi : (q : Int) ≤ 7 := by omega
  have ec : decide ((32 : Int) < (T0.length : Int)) = true := by simp; omega
  clear hK0 hI0 hT0 hc hq hq2
  clear hv hN hO hK hI hTx hs' eS hE
  have hg := h.lt
  obtain ⟨hB, hb0⟩ := box5 w 25 (.string ⟨#[]⟩) (.int .i64 0) (.int .i64 0) (.int .i64 0) (.string ⟨#[]⟩)
  have h0 := h.below hb0
  go_enter Try.func20, Try.ntmps20
  go_wp2_with fail
  generalize w.alloc (.cells #[.string ⟨#[]⟩, .int .i64 0, .int .i64 0, .int .i64 0, .string ⟨#[]⟩] 25) = w0 at *
  refine (hx w0 h0).mono ?_
  rintro e w1 ⟨rfl, h1, hT1⟩
  have hR1 := hT1.blk hB (by omega)
  have hT1w := (Touch.of_below (g := g) hb0).trans hT1
  clear h h0 hB hb0 hT1 hx
  go_wp2_with fail
  obtain ⟨hC2, hb2⟩ := box5 w1 25 (.string ⟨#[]⟩) (.int .i64 0) (.int .i64 0) (.int .i64 0) (.string ⟨#[]⟩)
  have hgw1 : w.heap.size ≤ w1.heap.size := hT1w.size
  have hne : w.heap.size ≠ w1.heap.size := by have := hR1.lt; omega
  have hgv : g ≠ w1.heap.size := by omega
  have h2 := h1.below hb2
  have hR2 := hR1.below hb2 hR1.lt
  have hT2w := hT1w.trans (Touch.of_below (g := g) hb2)
  clear h1 hR1 hT1w hb2
  generalize w1.heap.size = gc at *
  generalize w1.alloc (.cells #[.string ⟨#[]⟩, .int .i64 0, .int .i64 0, .int .i64 0, .string ⟨#[]⟩] 25) = w2 at *
  refine (refFail_at w2 g _ h2 fT.out 3).mono ?_
  rintro e w3 ⟨rfl, h3, hT3⟩
  have hC3 := hT3.blk hC2 (by omega)
  have hR3 := hT3.blk hR2 (by omega)
  have hT3w := hT2w.trans hT3
  clear hC2 hR2 hT2w hT3 h2
  go_wp2_with fail
  replace h3 : Sc w3 g 40 (Preds.nameS s) := by rw [eN.out]; exact h3
  refine (refUpto_is w3 g (Preds.nameS s) _ q h3 fN.out 8 (by decide) (by decide) HV8.out rfl).mono ?_
  rintro e w4 ⟨rfl, h4, hT4⟩
  have hC4 := hT4.blk hC3 (by omega)
  have hR4 := hT4.blk hR3 (by omega)
  have hT4w := hT3w.trans hT4
  clear hC3 hR3 hT3w hT4 h3
  obtain ⟨d0, d1, d2, d3, d4, f0, f1, f2, f3, f4⟩ := blk5 hC4
  have hC5 := hC4.put 1 (.int .i64 (q : Int))
  simp only [List.setIfInBounds_toArray, List.set_cons_zero, List.set_cons_succ] at hC5
  have h5 := h4.farN hC4 (noByte5 _ _ _ _ _) hgv 1 (.int .i64 (q : Int))
  have hT5w := hT4w.new_ (j := 1) (v := .int .i64 (q : Int)) hgw1
  have hR5 := hR4.far (p := ⟨gc, 1, none⟩) hne (.int .i64 (q : Int))
  clear hC4 hT4w hR4 h4
  go_wp2_with fail
  clear d0 d1 d2 d3 d4 f0 f1 f2 f3 f4
  generalize w4.setCell ⟨gc, 1, none⟩ (.int .i64 (q : Int)) = w5 at *
  replace h5 : Sc w5 g 40 (Preds.behind s) := by rw [eO.out]; exact h5
  refine (HSD w5 h5).mono ?_
  rintro e w6 ⟨rfl, h6, hT6⟩
  have hC6 := hT6.blk hC5 (by omega)
  have hR6 := hT6.blk hR5 (by omega)
  have hT6w := hT5w.trans hT6
  clear hC5 hR5 hT5w hT6 h5
  clear HSD
  obtain ⟨d0, d1, d2, d3, d4, f0, f1, f2, f3, f4⟩ := blk5 hC6
  have hC7 := hC6.setV_ K0 I0 ⟨T0.toArray⟩
  have h7 := h6.setV_ hC6 (noByte5 _ _ _ _ _) hgv K0 I0 ⟨T0.toArray⟩
  have hT7w := hT6w.setV_ hgw1 K0 I0 ⟨T0.toArray⟩
  have hR7 := hR6.farV hne K0 I0 ⟨T0.toArray⟩
  clear hC6 hT6w hR6 h6
  unfold setV at hC7 h7 hT7w hR7
  go_wp2_with fail
  clear d0 d1 d2 d3 d4 f0 f1 f2 f3 f4
  generalize ((w6.setCell ⟨gc, 2, none⟩ (.int .i64 K0)).setCell ⟨gc, 3, none⟩ (.int .i64 I0)).setCell ⟨gc, 4, none⟩ (.string ⟨T0.toArray⟩) = w7 at *
  refine (refFail_at w7 g _ h7 fV.out 3).mono ?_
  rintro e w8 ⟨rfl, h8, hT8⟩
  have hC8 := hT8.blk hC7 (by omega)
  have hR8 := hT8.blk hR7 (by omega)
  have hT8w := hT7w.trans hT8
  clear hC7 hR7 hT7w hT8 h7
  obtain ⟨A', n', cap', hG, hG'⟩ := h8
  have h8 := Sc.intro hG hG'
  obtain ⟨_, s1, _, _⟩ := blk2 hG
  obtain ⟨r0, r1, r2, r3, r4, k0, k1, k2, k3, k4⟩ := blk5 hR8
  obtain ⟨x0, x1, x2, x3, x4, _, _, _, _, _⟩ := blk5 hC8
  clear hC8
  clear hG hG'
  by_cases hz : ((Vals.getS (Preds.behind s)).fail 3).err = 0
  · have HZ : Hid (((Vals.getS (Preds.behind s)).fail 3).err = 0) := hz
    rw [hz] at s1
    obtain ⟨HN', rfl, rfl, rfl, rfl⟩ := HG.out hz
    subst HN'
    clear hz HG HBD
    go_wp2_with fail
    refine bodyPost_ret (v := .agg #[.string ⟨#[]⟩, .int .i64 (q : Int), .int .i64 K0, .int .i64 I0, .string ⟨T0.toArray⟩]) (by simp [results, Try.results20, go_sem, r0, r1, r2, r3, r4]) rfl ?_
    exact ⟨rfl, h8.setP_ hR8 (noByte5 _ _ _ _ _) (by omega) _ _ _ _ _, hT8w.setP_ (Nat.le_refl _) _ _ _ _ _⟩
  · have HZ : Hid (((Vals.getS (Preds.behind s)).fail 3).err ≠ 0) := hz
    have hd : ((((Vals.getS (Preds.behind s)).fail 3).err) != 0) = true := by simpa using hz
    obtain ⟨rfl, rfl, rfl, rfl, rfl⟩ := HBD.out hz
    clear hz HG HBD
    go_wp2_with fail
    refine bodyPost_ret (v := .agg #[.string ⟨#[]⟩, .int .i64 0, .int .i64 0, .int .i64 0, .string ⟨#[]⟩]) (by simp [results, Try.results20, go_sem, r0, r1, r2, r3, r4]) rfl ?_
    exact ⟨rfl, h8.setP_ hR8 (noByte5 _ _ _ _ _) (by omega) _ _ _ _ _, hT8w.setP_ (Nat.le_refl _) _ _ _ _ _⟩
set_option maxRecDepth 100000 in
set_option maxHeartbeats 3200000 in
theorem rpget_eqshort (w : World) (g : Nat) (s : Wire.St) (h : Sc w g 40 s) (hfi : s.fine) (N : List UInt8) (O K I : Int) (Tx : List UInt8) (s' : Wire.St) (hN : Preds.getN s = N) (hO : Preds.getO s = O) (hK : Preds.getK s = K) (hI : Preds.getI s = I) (hTx : Preds.getT s = Tx) (hs' : Preds.getS s = s') (hE : s.textV 16 = []) (q : Nat) (hq : 1 ≤ q) (hq2 : q ≤ 6) (hv : Preds.rawO s = q) (K0 I0 : Int) (T0 : List UInt8) (hK0 : Vals.getK (Preds.behind s) = K0) (hI0 : Vals.getI (Preds.behind s) = I0) (hT0 : Vals.getT (Preds.behind s) = T0) (hl : T0.length ≤ 64) (hc : T0.length ≤ 32) :
    Calls Try.prog 20 #[.pointer (some ⟨g, 0, none⟩)] w (Reads w g 40 (.agg #[.string ⟨N.toArray⟩, .int .i64 O, .int .i64 K, .int .i64 I, .string ⟨Tx.toArray⟩]) s') := by
  have HV8 : Hid ((Preds.nameS s).uptoV 8 = q) := hv
  have eN : Hid (Preds.nameS s = (s.textS 16).fail 3) := by show _ = _; unfold Preds.nameS; rw [if_pos hE]
  have eO : Hid (Preds.behind s = (Preds.nameS s).uptoS 8) := by show _ = _; unfold Preds.behind Preds.opS; rw [HV8.out]; rw [if_neg (by omega)]
  have eS : Hid (Preds.getS s = Vals.getS (Preds.behind s)) := by
    show _ = _
    unfold Preds.getS
    rw [hv, if_neg (by omega)]
    unfold Preds.sideS
    rw [hK0, hT0, if_neg (by unfold Preds.wrong; simp [hc] <;> omega)]
  have HG : Hid ((Vals.getS (Preds.behind s)).err = 0 → s.textV 16 = N ∧ (q : Int) = O ∧ K0 = K ∧ I0 = I ∧ T0 = Tx) := fun hz => by
    have hz' : (Preds.getS s).err = 0 := by rw [eS.out]; exact hz
    obtain ⟨g1, g2, g3, g4, g5⟩ := Preds.get_good s hz'
    refine ⟨g1.symm.trans hN, ?_, ?_, ?_, ?_⟩
    · rw [← hO, g2, hv]
    · rw [← hK, g3]; unfold Preds.rawK; rw [hv]; rw [if_neg (by omega)]; exact hK0.symm
    · rw [← hI, g4]; unfold Preds.rawI; rw [hv]; rw [if_neg (by omega)]; exact hI0.symm
    · rw [← hTx, g5]; unfold Preds.rawT; rw [hv]; rw [if_neg (by omega)]; exact hT0.symm
  have HBD : Hid ((Vals.getS (Preds.behind s)).err ≠ 0 → [] = N ∧ 0 = O ∧ 0 = K ∧ 0 = I ∧ [] = Tx) := fun hz => by
    have hz' : (Preds.getS s).err ≠ 0 := by rw [eS.out]; exact hz
    obtain ⟨g1, g2, g3, g4, g5⟩ := Preds.get_bad s hz'
    exact ⟨g1.symm.trans hN, g2.symm.trans hO, g3.symm.trans hK, g4.symm.trans hI, g5.symm.trans hTx⟩
  obtain rfl := eS.out.symm.trans hs'
  have fN := Lib.hid (Preds.nameS_fine hfi)
  have fO : Hid ((Preds.behind s).fine) := Preds.opS_fine (Preds.nameS_fine hfi)
  have fT := Lib.hid (Wire.St.textS_fine hfi 16)
  have fU := Lib.hid (Wire.St.uptoS_fine fN.out 8)
  have fV := Lib.hid (Vals.getS_fine fO.out)
  have hx := fun w0 h0 => refText_at w0 g s h0 hfi 16 (by decide) (by decide)
  rw [hE] at hx HG
  have HSD := fun w0 h0 => rvget_at w0 g (Preds.behind s) h0 fO.out K0 I0 T0 _ hK0 hI0 hT0 rfl
  have e8 : ((q : Int) != 8) = true := by simp; omega
  have e7 : ((q : Int) == 7) = false := by simp; omega
  have e0 : ((q : Int) == 0) = false := by simp; omega
  have hqi : (q : Int) ≤ 7 := by omega
  have ec : decide ((32 : Int) < (T0.length : Int)) = false := by simp; omega
  clear hK0 hI0 hT0 hc hq hq2
  clear hv hN hO hK hI hTx hs' eS hE
  have hg := h.lt
  obtain ⟨hB, hb0⟩ := box5 w 25 (.string ⟨#[]⟩) (.int .i64 0) (.int .i64 0) (.int .i64 0) (.string ⟨#[]⟩)
  have h0 := h.below hb0
  go_enter Try.func20, Try.ntmps20
  go_wp2_with fail
  generalize w.alloc (.cells #[.string ⟨#[]⟩, .int .i64 0, .int .i64 0, .int .i64 0, .string ⟨#[]⟩] 25) = w0 at *
  refine (hx w0 h0).mono ?_
  rintro e w1 ⟨rfl, h1, hT1⟩
  have hR1 := hT1.blk hB (by omega)
  have hT1w := (Touch.of_below (g := g) hb0).trans hT1
  clear h h0 hB hb0 hT1 hx
  go_wp2_with fail
  obtain ⟨hC2, hb2⟩ := box5 w1 25 (.string ⟨#[]⟩) (.int .i64 0) (.int .i64 0) (.int .i64 0) (.string ⟨#[]⟩)
  have hgw1 : w.heap.size ≤ w1.heap.size := hT1w.size
  have hne : w.heap.size ≠ w1.heap.size := by have := hR1.lt; omega
  have hgv : g ≠ w1.heap.size := by omega
  have h2 := h1.below hb2
  have hR2 := hR1.below hb2 hR1.lt
  have hT2w := hT1w.trans (Touch.of_below (g := g) hb2)
  clear h1 hR1 hT1w hb2
  generalize w1.heap.size = gc at *
  generalize w1.alloc (.cells #[.string ⟨#[]⟩, .int .i64 0, .int .i64 0, .int .i64 0, .string ⟨#[]⟩] 25) = w2 at *
  refine (refFail_at w2 g _ h2 fT.out 3).mono ?_
  rintro e w3 ⟨rfl, h3, hT3⟩
  have hC3 := hT3.blk hC2 (by omega)
  have hR3 := hT3.blk hR2 (by omega)
  have hT3w := hT2w.trans hT3
  clear hC2 hR2 hT2w hT3 h2
  go_wp2_with fail
  replace h3 : Sc w3 g 40 (Preds.nameS s) := by rw [eN.out]; exact h3
  refine (refUpto_is w3 g (Preds.nameS s) _ q h3 fN.out 8 (by decide) (by decide) HV8.out rfl).mono ?_
  rintro e w4 ⟨rfl, h4, hT4⟩
  have hC4 := hT4.blk hC3 (by omega)
  have hR4 := hT4.blk hR3 (by omega)
  have hT4w := hT3w.trans hT4
  clear hC3 hR3 hT3w hT4 h3
  obtain ⟨d0, d1, d2, d3, d4, f0, f1, f2, f3, f4⟩ := blk5 hC4
  have hC5 := hC4.put 1 (.int .i64 (q : Int))
  simp only [List.setIfInBounds_toArray, List.set_cons_zero, List.set_cons_succ] at hC5
  have h5 := h4.farN hC4 (noByte5 _ _ _ _ _) hgv 1 (.int .i64 (q : Int))
  have hT5w := hT4w.new_ (j := 1) (v := .int .i64 (q : Int)) hgw1
  have hR5 := hR4.far (p := ⟨gc, 1, none⟩) hne (.int .i64 (q : Int))
  clear hC4 hT4w hR4 h4
  go_wp2_with fail
  clear d0 d1 d2 d3 d4 f0 f1 f2 f3 f4
  generalize w4.setCell ⟨gc, 1, none⟩ (.int .i64 (q : Int)) = w5 at *
  replace h5 : Sc w5 g 40 (Preds.behind s) := by rw [eO.out]; exact h5
  refine (HSD w5 h5).mono ?_
  rintro e w6 ⟨rfl, h6, hT6⟩
  have hC6 := hT6.blk hC5 (by omega)
  have hR6 := hT6.blk hR5 (by omega)
  have hT6w := hT5w.trans hT6
  clear hC5 hR5 hT5w hT6 h5
  clear HSD
  obtain ⟨d0, d1, d2, d3, d4, f0, f1, f2, f3, f4⟩ := blk5 hC6
  have hC7 := hC6.setV_ K0 I0 ⟨T0.toArray⟩
  have h7 := h6.setV_ hC6 (noByte5 _ _ _ _ _) hgv K0 I0 ⟨T0.toArray⟩
  have hT7w := hT6w.setV_ hgw1 K0 I0 ⟨T0.toArray⟩
  have hR7 := hR6.farV hne K0 I0 ⟨T0.toArray⟩
  clear hC6 hT6w hR6 h6
  unfold setV at hC7 h7 hT7w hR7
  obtain ⟨A', n', cap', hG, hG'⟩ := h7
  have h7 := Sc.intro hG hG'
  obtain ⟨_, s1, _, _⟩ := blk2 hG
  obtain ⟨r0, r1, r2, r3, r4, k0, k1, k2, k3, k4⟩ := blk5 hR7
  obtain ⟨x0, x1, x2, x3, x4, _, _, _, _, _⟩ := blk5 hC7
  clear hC7
  clear hG hG'
  by_cases hz : (Vals.getS (Preds.behind s)).err = 0
  · have HZ : Hid ((Vals.getS (Preds.behind s)).err = 0) := hz
    rw [hz] at s1
    obtain ⟨HN', rfl, rfl, rfl, rfl⟩ := HG.out hz
    subst HN'
    clear hz HG HBD
    go_wp2_with fail
    refine bodyPost_ret (v := .agg #[.string ⟨#[]⟩, .int .i64 (q : Int), .int .i64 K0, .int .i64 I0, .string ⟨T0.toArray⟩]) (by simp [results, Try.results20, go_sem, r0, r1, r2, r3, r4]) rfl ?_
    exact ⟨rfl, h7.setP_ hR7 (noByte5 _ _ _ _ _) (by omega) _ _ _ _ _, hT7w.setP_ (Nat.le_refl _) _ _ _ _ _⟩
  · have HZ : Hid ((Vals.getS (Preds.behind s)).err ≠ 0) := hz
    have hd : (((Vals.getS (Preds.behind s)).err) != 0) = true := by simpa using hz
    obtain ⟨rfl, rfl, rfl, rfl, rfl⟩ := HBD.out hz
    clear hz HG HBD
    go_wp2_with fail
    refine bodyPost_ret (v := .agg #[.string ⟨#[]⟩, .int .i64 0, .int .i64 0, .int .i64 0, .string ⟨#[]⟩]) (by simp [results, Try.results20, go_sem, r0, r1, r2, r3, r4]) rfl ?_
    exact ⟨rfl, h7.setP_ hR7 (noByte5 _ _ _ _ _) (by omega) _ _ _ _ _, hT7w.setP_ (Nat.le_refl _) _ _ _ _ _⟩
theorem rpget_at (w : World) (g : Nat) (s : Wire.St) (h : Sc w g 40 s) (hfi : s.fine) (N : List UInt8) (O K I : Int) (Tx : List UInt8) (s' : Wire.St) (hN : Preds.getN s = N) (hO : Preds.getO s = O) (hK : Preds.getK s = K) (hI : Preds.getI s = I) (hTx : Preds.getT s = Tx) (hs' : Preds.getS s = s') :
    Calls Try.prog 20 #[.pointer (some ⟨g, 0, none⟩)] w (Reads w g 40 (.agg #[.string ⟨N.toArray⟩, .int .i64 O, .int .i64 K, .int .i64 I, .string ⟨Tx.toArray⟩]) s') := by
  have hl := vgetT_le (Preds.behind s)
  by_cases hE : s.textV 16 = []
  · by_cases h8 : Preds.rawO s = 8
    · exact rpget_e8 w g s h hfi N O K I Tx s' hN hO hK hI hTx hs' hE h8
    · have hle := Preds.rawO_le s
      by_cases h0 : Preds.rawO s = 0
      · by_cases hc : 32 < (Vals.getT (Preds.behind s)).length
        · exact rpget_e0long w g s h hfi N O K I Tx s' hN hO hK hI hTx hs' hE h0 _ _ _ rfl rfl rfl hl hc
        · exact rpget_e0short w g s h hfi N O K I Tx s' hN hO hK hI hTx hs' hE h0 _ _ _ rfl rfl rfl hl (by omega)
      · by_cases h7 : Preds.rawO s = 7
        · by_cases hk : Vals.getK (Preds.behind s) = 2
          · by_cases hc : 32 < (Vals.getT (Preds.behind s)).length
            · exact rpget_e7long w g s h hfi N O K I Tx s' hN hO hK hI hTx hs' hE h7 _ _ hk rfl rfl hl hc
            · exact rpget_e7short w g s h hfi N O K I Tx s' hN hO hK hI hTx hs' hE h7 _ _ hk rfl rfl hl (by omega)
          · exact rpget_e7pre w g s h hfi N O K I Tx s' hN hO hK hI hTx hs' hE h7 _ _ _ rfl rfl rfl hl hk
        · by_cases hc : 32 < (Vals.getT (Preds.behind s)).length
          · exact rpget_eqlong w g s h hfi N O K I Tx s' hN hO hK hI hTx hs' hE _ (by omega) (by omega) rfl _ _ _ rfl rfl rfl hl hc
          · exact rpget_eqshort w g s h hfi N O K I Tx s' hN hO hK hI hTx hs' hE _ (by omega) (by omega) rfl _ _ _ rfl rfl rfl hl (by omega)
  · by_cases h8 : Preds.rawO s = 8
    · exact rpget_n8 w g s h hfi N O K I Tx s' hN hO hK hI hTx hs' hE h8
    · have hle := Preds.rawO_le s
      by_cases h0 : Preds.rawO s = 0
      · by_cases hc : 32 < (Vals.getT (Preds.behind s)).length
        · exact rpget_n0long w g s h hfi N O K I Tx s' hN hO hK hI hTx hs' hE h0 _ _ _ rfl rfl rfl hl hc
        · exact rpget_n0short w g s h hfi N O K I Tx s' hN hO hK hI hTx hs' hE h0 _ _ _ rfl rfl rfl hl (by omega)
      · by_cases h7 : Preds.rawO s = 7
        · by_cases hk : Vals.getK (Preds.behind s) = 2
          · by_cases hc : 32 < (Vals.getT (Preds.behind s)).length
            · exact rpget_n7long w g s h hfi N O K I Tx s' hN hO hK hI hTx hs' hE h7 _ _ hk rfl rfl hl hc
            · exact rpget_n7short w g s h hfi N O K I Tx s' hN hO hK hI hTx hs' hE h7 _ _ hk rfl rfl hl (by omega)
          · exact rpget_n7pre w g s h hfi N O K I Tx s' hN hO hK hI hTx hs' hE h7 _ _ _ rfl rfl rfl hl hk
        · by_cases hc : 32 < (Vals.getT (Preds.behind s)).length
          · exact rpget_nqlong w g s h hfi N O K I Tx s' hN hO hK hI hTx hs' hE _ (by omega) (by omega) rfl _ _ _ rfl rfl rfl hl hc
          · exact rpget_nqshort w g s h hfi N O K I Tx s' hN hO hK hI hTx hs' hE _ (by omega) (by omega) rfl _ _ _ rfl rfl rfl hl (by omega)
end Go.Proofs.Ytcmjekchfgnbdaa
