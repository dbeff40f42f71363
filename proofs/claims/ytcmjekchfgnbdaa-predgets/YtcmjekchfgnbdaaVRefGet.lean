/- The document's own answer for layer 4: Get. -/
import Derived.Test.YtcmjekchfgnbdaaVGet
import Derived.Test.YtcmjekchfgnbdaaWRefT
namespace Go.Proofs.Ytcmjekchfgnbdaa
open Go.RowKit
theorem refUpto_is (w : World) (g : Nat) (s s' : Wire.St) (v : Nat) (h : Sc w g 40 s) (hfi : s.fine) (m : Int) (hm1 : -9223372036854775808 ≤ m) (hm2 : m ≤ 9223372036854775807) (hv : s.uptoV m = v) (hs : s.uptoS m = s') :
    Calls Try.prog 44 #[.pointer (some ⟨g, 0, none⟩), .int .i64 m] w (Reads w g 40 (.int .i64 (v : Int)) s') := by
  subst hv; subst hs; exact refUpto_at w g s h hfi m hm1 hm2
theorem Sc.intro {w : World} {g : Nat} {t : TypeId} {s : Wire.St} {A : Option Addr} {n cap : Nat} (hB : Blk w g t #[.slice A n cap, .int .i64 s.err]) (h : s.rest.length = n ∧ n ≤ cap ∧ cap ≤ 140737488355328 ∧ Rd w A s.rest) : Sc w g t s := ⟨A, n, cap, hB, h⟩
set_option maxRecDepth 100000 in
set_option maxHeartbeats 800000 in
theorem rvget_int (w : World) (g : Nat) (s : Wire.St) (h : Sc w g 40 s) (hfi : s.fine) (hv : s.uptoV 3 = 1) (K I : Int) (Tx : List UInt8) (s' : Wire.St) (hK : Vals.getK s = K) (hI : Vals.getI s = I) (hTx : Vals.getT s = Tx) (hs' : Vals.getS s = s') :
    Calls Try.prog 45 #[.pointer (some ⟨g, 0, none⟩)] w (Reads w g 40 (.agg #[.int .i64 K, .int .i64 I, .string ⟨Tx.toArray⟩]) s') := by
  have HV := Lib.hid hv
  have HK := Lib.hid hK
  have HI := Lib.hid hI
  have HT := Lib.hid hTx
  have eS : Hid (Vals.getS s = (s.uptoS 3).numS) := by show _ = _; unfold Vals.getS; rw [HV.out]; rfl
  obtain rfl := eS.out.symm.trans hs'
  clear hv hK hI hTx hs'
  have hfi1 := Wire.St.uptoS_fine hfi 3
  have hg := h.lt
  have h0 := h.below ((Below.refl _ _).alloc (Nat.le_refl _) (.cells #[.int .i64 0, .int .i64 0, .string ⟨#[]⟩] 23))
  obtain ⟨hB, hb0⟩ := box3 w 23 (.int .i64 0) (.int .i64 0) (.string ⟨#[]⟩)
  go_enter Try.func45, Try.ntmps45
  go_wp2_with fail
  generalize w.alloc (.cells #[.int .i64 0, .int .i64 0, .string ⟨#[]⟩] 23) = w0 at *
  refine (refUpto_is _ g s _ 1 h0 hfi 3 (by decide) (by decide) HV.out rfl).mono ?_
  rintro e w1 ⟨rfl, h1, hT1⟩
  have hR1 := hT1.blk hB (by omega)
  have hT1w := (Touch.of_below (g := g) hb0).trans hT1
  go_wp2_with fail
  obtain ⟨hB2, hb2⟩ := box3 w1 23 (.int .i64 1) (.int .i64 0) (.string ⟨#[]⟩)
  have hgw1 : w.heap.size ≤ w1.heap.size := hT1w.size
  have hne : w.heap.size ≠ w1.heap.size := by have := hR1.lt; omega
  have hgv : g ≠ w1.heap.size := by omega
  have h2 := h1.below hb2
  have hR2 := hR1.below hb2 hR1.lt
  have hT2w := hT1w.trans (Touch.of_below (g := g) hb2)
  generalize w1.alloc (.cells #[.int .i64 1, .int .i64 0, .string ⟨#[]⟩] 23) = w2 at *
  clear hB h h0 hb0 hT1 hR1 hT1w h1 hb2
  refine (refInt_at w2 g _ h2 hfi1).mono ?_
  rintro e w3 ⟨rfl, h3, hT3⟩
  have hB3 := hT3.blk hB2 (by omega)
  have hR3 := hT3.blk hR2 (by omega)
  have hT3w := hT2w.trans hT3
  clear hB2 hR2 hT2w hT3 h2
  obtain ⟨d0, d1, d2, e0, e1, e2⟩ := blk3 hB3
  have hB3v := hB3.put 1 (.int .i64 (Wire.zag (s.uptoS 3).numV))
  have h3' := h3.far3 hB3 hgv 1 (.int .i64 (Wire.zag (s.uptoS 3).numV))
  simp only [List.setIfInBounds_toArray, List.set_cons_zero, List.set_cons_succ] at hB3v
  have hT3' := hT3w.new_ (j := 1) (v := (.int .i64 (Wire.zag (s.uptoS 3).numV))) hgw1
  have hR3' := hR3.far (p := ⟨w1.heap.size, 1, none⟩) hne (.int .i64 (Wire.zag (s.uptoS 3).numV))
  obtain ⟨A', n', cap', hG, hG'⟩ := h3'
  have h3' := Sc.intro hG hG'
  obtain ⟨_, s1, _, _⟩ := blk2 hG
  obtain ⟨v0, v1, v2, _, _, _⟩ := blk3 hB3v
  obtain ⟨r0, r1, r2, k0, k1, k2⟩ := blk3 hR3'
  clear hB3 hT3w hR3 h3 hG hG' hB3v
  by_cases hz : ((s.uptoS 3).numS).err = 0
  · have HZ : Hid (((s.uptoS 3).numS).err = 0) := hz
    rw [hz] at s1
    clear hz
    obtain rfl : (1 : Int) = K := by rw [← HK.out]; unfold Vals.getK; rw [eS.out, if_pos HZ.out, HV.out]; rfl
    obtain rfl : (Wire.zag (s.uptoS 3).numV) = I := by rw [← HI.out]; unfold Vals.getI; rw [eS.out, if_pos HZ.out, HV.out]; rfl
    obtain rfl : [] = Tx := by rw [← HT.out]; unfold Vals.getT; rw [eS.out, if_pos HZ.out, HV.out]; rfl
    go_wp2_with fail
    refine bodyPost_ret (v := .agg #[(.int .i64 1), (.int .i64 (Wire.zag (s.uptoS 3).numV)), (.string ⟨#[]⟩)]) (by simp [results, Try.results45, go_sem, r0, r1, r2]) rfl ?_
    exact ⟨rfl, h3'.set3 hR3' (by omega), hT3'.set3 (Nat.le_refl _) _ _ _⟩
  · have HZ : Hid (((s.uptoS 3).numS).err ≠ 0) := hz
    have hd : ((((s.uptoS 3).numS).err) != 0) = true := by simpa using hz
    clear hz
    obtain rfl : (0 : Int) = K := by rw [← HK.out]; unfold Vals.getK; rw [eS.out, if_neg HZ.out]
    obtain rfl : (0 : Int) = I := by rw [← HI.out]; unfold Vals.getI; rw [eS.out, if_neg HZ.out]
    obtain rfl : [] = Tx := by rw [← HT.out]; unfold Vals.getT; rw [eS.out, if_neg HZ.out]
    go_wp2_with fail
    refine bodyPost_ret (v := .agg #[.int .i64 0, .int .i64 0, .string ⟨#[]⟩]) (by simp [results, Try.results45, go_sem, r0, r1, r2]) rfl ?_
    exact ⟨rfl, h3'.set3 hR3' (by omega), hT3'.set3 (Nat.le_refl _) _ _ _⟩
set_option maxRecDepth 100000 in
set_option maxHeartbeats 800000 in
theorem rvget_text (w : World) (g : Nat) (s : Wire.St) (h : Sc w g 40 s) (hfi : s.fine) (hv : s.uptoV 3 = 2) (K I : Int) (Tx : List UInt8) (s' : Wire.St) (hK : Vals.getK s = K) (hI : Vals.getI s = I) (hTx : Vals.getT s = Tx) (hs' : Vals.getS s = s') :
    Calls Try.prog 45 #[.pointer (some ⟨g, 0, none⟩)] w (Reads w g 40 (.agg #[.int .i64 K, .int .i64 I, .string ⟨Tx.toArray⟩]) s') := by
  have HV := Lib.hid hv
  have HK := Lib.hid hK
  have HI := Lib.hid hI
  have HT := Lib.hid hTx
  have eS : Hid (Vals.getS s = (s.uptoS 3).textS 64) := by show _ = _; unfold Vals.getS; rw [HV.out]; rfl
  obtain rfl := eS.out.symm.trans hs'
  clear hv hK hI hTx hs'
  have hfi1 := Wire.St.uptoS_fine hfi 3
  have hg := h.lt
  have h0 := h.below ((Below.refl _ _).alloc (Nat.le_refl _) (.cells #[.int .i64 0, .int .i64 0, .string ⟨#[]⟩] 23))
  obtain ⟨hB, hb0⟩ := box3 w 23 (.int .i64 0) (.int .i64 0) (.string ⟨#[]⟩)
  go_enter Try.func45, Try.ntmps45
  go_wp2_with fail
  generalize w.alloc (.cells #[.int .i64 0, .int .i64 0, .string ⟨#[]⟩] 23) = w0 at *
  refine (refUpto_is _ g s _ 2 h0 hfi 3 (by decide) (by decide) HV.out rfl).mono ?_
  rintro e w1 ⟨rfl, h1, hT1⟩
  have hR1 := hT1.blk hB (by omega)
  have hT1w := (Touch.of_below (g := g) hb0).trans hT1
  go_wp2_with fail
  obtain ⟨hB2, hb2⟩ := box3 w1 23 (.int .i64 2) (.int .i64 0) (.string ⟨#[]⟩)
  have hgw1 : w.heap.size ≤ w1.heap.size := hT1w.size
  have hne : w.heap.size ≠ w1.heap.size := by have := hR1.lt; omega
  have hgv : g ≠ w1.heap.size := by omega
  have h2 := h1.below hb2
  have hR2 := hR1.below hb2 hR1.lt
  have hT2w := hT1w.trans (Touch.of_below (g := g) hb2)
  generalize w1.alloc (.cells #[.int .i64 2, .int .i64 0, .string ⟨#[]⟩] 23) = w2 at *
  clear hB h h0 hb0 hT1 hR1 hT1w h1 hb2
  refine (refText_at w2 g _ h2 hfi1 64 (by decide) (by decide)).mono ?_
  rintro e w3 ⟨rfl, h3, hT3⟩
  have hB3 := hT3.blk hB2 (by omega)
  have hR3 := hT3.blk hR2 (by omega)
  have hT3w := hT2w.trans hT3
  clear hB2 hR2 hT2w hT3 h2
  obtain ⟨d0, d1, d2, e0, e1, e2⟩ := blk3 hB3
  have hB3v := hB3.put 2 (.string ⟨((s.uptoS 3).textV 64).toArray⟩)
  have h3' := h3.far3 hB3 hgv 2 (.string ⟨((s.uptoS 3).textV 64).toArray⟩)
  simp only [List.setIfInBounds_toArray, List.set_cons_zero, List.set_cons_succ] at hB3v
  have hT3' := hT3w.new_ (j := 2) (v := (.string ⟨((s.uptoS 3).textV 64).toArray⟩)) hgw1
  have hR3' := hR3.far (p := ⟨w1.heap.size, 2, none⟩) hne (.string ⟨((s.uptoS 3).textV 64).toArray⟩)
  obtain ⟨A', n', cap', hG, hG'⟩ := h3'
  have h3' := Sc.intro hG hG'
  obtain ⟨_, s1, _, _⟩ := blk2 hG
  obtain ⟨v0, v1, v2, _, _, _⟩ := blk3 hB3v
  obtain ⟨r0, r1, r2, k0, k1, k2⟩ := blk3 hR3'
  clear hB3 hT3w hR3 h3 hG hG' hB3v
  by_cases hz : ((s.uptoS 3).textS 64).err = 0
  · have HZ : Hid (((s.uptoS 3).textS 64).err = 0) := hz
    rw [hz] at s1
    clear hz
    obtain rfl : (2 : Int) = K := by rw [← HK.out]; unfold Vals.getK; rw [eS.out, if_pos HZ.out, HV.out]; rfl
    obtain rfl : (0 : Int) = I := by rw [← HI.out]; unfold Vals.getI; rw [eS.out, if_pos HZ.out, HV.out]; rfl
    obtain rfl : ((s.uptoS 3).textV 64) = Tx := by rw [← HT.out]; unfold Vals.getT; rw [eS.out, if_pos HZ.out, HV.out]; rfl
    go_wp2_with fail
    refine bodyPost_ret (v := .agg #[(.int .i64 2), (.int .i64 0), (.string ⟨((s.uptoS 3).textV 64).toArray⟩)]) (by simp [results, Try.results45, go_sem, r0, r1, r2]) rfl ?_
    exact ⟨rfl, h3'.set3 hR3' (by omega), hT3'.set3 (Nat.le_refl _) _ _ _⟩
  · have HZ : Hid (((s.uptoS 3).textS 64).err ≠ 0) := hz
    have hd : ((((s.uptoS 3).textS 64).err) != 0) = true := by simpa using hz
    clear hz
    obtain rfl : (0 : Int) = K := by rw [← HK.out]; unfold Vals.getK; rw [eS.out, if_neg HZ.out]
    obtain rfl : (0 : Int) = I := by rw [← HI.out]; unfold Vals.getI; rw [eS.out, if_neg HZ.out]
    obtain rfl : [] = Tx := by rw [← HT.out]; unfold Vals.getT; rw [eS.out, if_neg HZ.out]
    go_wp2_with fail
    refine bodyPost_ret (v := .agg #[.int .i64 0, .int .i64 0, .string ⟨#[]⟩]) (by simp [results, Try.results45, go_sem, r0, r1, r2]) rfl ?_
    exact ⟨rfl, h3'.set3 hR3' (by omega), hT3'.set3 (Nat.le_refl _) _ _ _⟩
set_option maxRecDepth 100000 in
set_option maxHeartbeats 800000 in
theorem rvget_bool (w : World) (g : Nat) (s : Wire.St) (h : Sc w g 40 s) (hfi : s.fine) (hv : s.uptoV 3 = 3) (K I : Int) (Tx : List UInt8) (s' : Wire.St) (hK : Vals.getK s = K) (hI : Vals.getI s = I) (hTx : Vals.getT s = Tx) (hs' : Vals.getS s = s') :
    Calls Try.prog 45 #[.pointer (some ⟨g, 0, none⟩)] w (Reads w g 40 (.agg #[.int .i64 K, .int .i64 I, .string ⟨Tx.toArray⟩]) s') := by
  have HV := Lib.hid hv
  have HK := Lib.hid hK
  have HI := Lib.hid hI
  have HT := Lib.hid hTx
  have eS : Hid (Vals.getS s = (s.uptoS 3).uptoS 1) := by show _ = _; unfold Vals.getS; rw [HV.out]; rfl
  obtain rfl := eS.out.symm.trans hs'
  clear hv hK hI hTx hs'
  have hfi1 := Wire.St.uptoS_fine hfi 3
  have hg := h.lt
  have h0 := h.below ((Below.refl _ _).alloc (Nat.le_refl _) (.cells #[.int .i64 0, .int .i64 0, .string ⟨#[]⟩] 23))
  obtain ⟨hB, hb0⟩ := box3 w 23 (.int .i64 0) (.int .i64 0) (.string ⟨#[]⟩)
  go_enter Try.func45, Try.ntmps45
  go_wp2_with fail
  generalize w.alloc (.cells #[.int .i64 0, .int .i64 0, .string ⟨#[]⟩] 23) = w0 at *
  refine (refUpto_is _ g s _ 3 h0 hfi 3 (by decide) (by decide) HV.out rfl).mono ?_
  rintro e w1 ⟨rfl, h1, hT1⟩
  have hR1 := hT1.blk hB (by omega)
  have hT1w := (Touch.of_below (g := g) hb0).trans hT1
  go_wp2_with fail
  obtain ⟨hB2, hb2⟩ := box3 w1 23 (.int .i64 3) (.int .i64 0) (.string ⟨#[]⟩)
  have hgw1 : w.heap.size ≤ w1.heap.size := hT1w.size
  have hne : w.heap.size ≠ w1.heap.size := by have := hR1.lt; omega
  have hgv : g ≠ w1.heap.size := by omega
  have h2 := h1.below hb2
  have hR2 := hR1.below hb2 hR1.lt
  have hT2w := hT1w.trans (Touch.of_below (g := g) hb2)
  generalize w1.alloc (.cells #[.int .i64 3, .int .i64 0, .string ⟨#[]⟩] 23) = w2 at *
  clear hB h h0 hb0 hT1 hR1 hT1w h1 hb2
  refine (refUpto_at w2 g _ h2 hfi1 1 (by decide) (by decide)).mono ?_
  rintro e w3 ⟨rfl, h3, hT3⟩
  have hB3 := hT3.blk hB2 (by omega)
  have hR3 := hT3.blk hR2 (by omega)
  have hT3w := hT2w.trans hT3
  clear hB2 hR2 hT2w hT3 h2
  obtain ⟨d0, d1, d2, e0, e1, e2⟩ := blk3 hB3
  have hB3v := hB3.put 1 (.int .i64 ((s.uptoS 3).uptoV 1 : Int))
  have h3' := h3.far3 hB3 hgv 1 (.int .i64 ((s.uptoS 3).uptoV 1 : Int))
  simp only [List.setIfInBounds_toArray, List.set_cons_zero, List.set_cons_succ] at hB3v
  have hT3' := hT3w.new_ (j := 1) (v := (.int .i64 ((s.uptoS 3).uptoV 1 : Int))) hgw1
  have hR3' := hR3.far (p := ⟨w1.heap.size, 1, none⟩) hne (.int .i64 ((s.uptoS 3).uptoV 1 : Int))
  obtain ⟨A', n', cap', hG, hG'⟩ := h3'
  have h3' := Sc.intro hG hG'
  obtain ⟨_, s1, _, _⟩ := blk2 hG
  obtain ⟨v0, v1, v2, _, _, _⟩ := blk3 hB3v
  obtain ⟨r0, r1, r2, k0, k1, k2⟩ := blk3 hR3'
  clear hB3 hT3w hR3 h3 hG hG' hB3v
  by_cases hz : ((s.uptoS 3).uptoS 1).err = 0
  · have HZ : Hid (((s.uptoS 3).uptoS 1).err = 0) := hz
    rw [hz] at s1
    clear hz
    obtain rfl : (3 : Int) = K := by rw [← HK.out]; unfold Vals.getK; rw [eS.out, if_pos HZ.out, HV.out]; rfl
    obtain rfl : ((s.uptoS 3).uptoV 1 : Int) = I := by rw [← HI.out]; unfold Vals.getI; rw [eS.out, if_pos HZ.out, HV.out]; rfl
    obtain rfl : [] = Tx := by rw [← HT.out]; unfold Vals.getT; rw [eS.out, if_pos HZ.out, HV.out]; rfl
    go_wp2_with fail
    refine bodyPost_ret (v := .agg #[(.int .i64 3), (.int .i64 ((s.uptoS 3).uptoV 1 : Int)), (.string ⟨#[]⟩)]) (by simp [results, Try.results45, go_sem, r0, r1, r2]) rfl ?_
    exact ⟨rfl, h3'.set3 hR3' (by omega), hT3'.set3 (Nat.le_refl _) _ _ _⟩
  · have HZ : Hid (((s.uptoS 3).uptoS 1).err ≠ 0) := hz
    have hd : ((((s.uptoS 3).uptoS 1).err) != 0) = true := by simpa using hz
    clear hz
    obtain rfl : (0 : Int) = K := by rw [← HK.out]; unfold Vals.getK; rw [eS.out, if_neg HZ.out]
    obtain rfl : (0 : Int) = I := by rw [← HI.out]; unfold Vals.getI; rw [eS.out, if_neg HZ.out]
    obtain rfl : [] = Tx := by rw [← HT.out]; unfold Vals.getT; rw [eS.out, if_neg HZ.out]
    go_wp2_with fail
    refine bodyPost_ret (v := .agg #[.int .i64 0, .int .i64 0, .string ⟨#[]⟩]) (by simp [results, Try.results45, go_sem, r0, r1, r2]) rfl ?_
    exact ⟨rfl, h3'.set3 hR3' (by omega), hT3'.set3 (Nat.le_refl _) _ _ _⟩
set_option maxRecDepth 100000 in
set_option maxHeartbeats 800000 in
theorem rvget_none (w : World) (g : Nat) (s : Wire.St) (h : Sc w g 40 s) (hfi : s.fine) (hv : s.uptoV 3 = 0) (K I : Int) (Tx : List UInt8) (s' : Wire.St) (hK : Vals.getK s = K) (hI : Vals.getI s = I) (hTx : Vals.getT s = Tx) (hs' : Vals.getS s = s') :
    Calls Try.prog 45 #[.pointer (some ⟨g, 0, none⟩)] w (Reads w g 40 (.agg #[.int .i64 K, .int .i64 I, .string ⟨Tx.toArray⟩]) s') := by
  have HV := Lib.hid hv
  have HK := Lib.hid hK
  have HI := Lib.hid hI
  have HT := Lib.hid hTx
  have eS : Hid (Vals.getS s = (s.uptoS 3).fail 3) := by show _ = _; unfold Vals.getS; rw [HV.out]; rfl
  have HZ0 : Hid (((s.uptoS 3).fail 3).err ≠ 0) := by show _ ≠ _; unfold Wire.St.fail; split <;> simp_all
  obtain rfl := eS.out.symm.trans hs'
  clear hv hK hI hTx hs'
  have hfi1 := Wire.St.uptoS_fine hfi 3
  have hg := h.lt
  have h0 := h.below ((Below.refl _ _).alloc (Nat.le_refl _) (.cells #[.int .i64 0, .int .i64 0, .string ⟨#[]⟩] 23))
  obtain ⟨hB, hb0⟩ := box3 w 23 (.int .i64 0) (.int .i64 0) (.string ⟨#[]⟩)
  go_enter Try.func45, Try.ntmps45
  go_wp2_with fail
  generalize w.alloc (.cells #[.int .i64 0, .int .i64 0, .string ⟨#[]⟩] 23) = w0 at *
  refine (refUpto_is _ g s _ 0 h0 hfi 3 (by decide) (by decide) HV.out rfl).mono ?_
  rintro e w1 ⟨rfl, h1, hT1⟩
  have hR1 := hT1.blk hB (by omega)
  have hT1w := (Touch.of_below (g := g) hb0).trans hT1
  go_wp2_with fail
  obtain ⟨hB2, hb2⟩ := box3 w1 23 (.int .i64 0) (.int .i64 0) (.string ⟨#[]⟩)
  have hgw1 : w.heap.size ≤ w1.heap.size := hT1w.size
  have hne : w.heap.size ≠ w1.heap.size := by have := hR1.lt; omega
  have hgv : g ≠ w1.heap.size := by omega
  have h2 := h1.below hb2
  have hR2 := hR1.below hb2 hR1.lt
  have hT2w := hT1w.trans (Touch.of_below (g := g) hb2)
  generalize w1.alloc (.cells #[.int .i64 0, .int .i64 0, .string ⟨#[]⟩] 23) = w2 at *
  clear hB h h0 hb0 hT1 hR1 hT1w h1 hb2
  refine (refFail_at w2 g _ h2 hfi1 3).mono ?_
  rintro e w3 ⟨rfl, h3, hT3⟩
  have hB3 := hT3.blk hB2 (by omega)
  have hR3 := hT3.blk hR2 (by omega)
  have hT3w := hT2w.trans hT3
  clear hB2 hR2 hT2w hT3 h2
  obtain ⟨d0, d1, d2, e0, e1, e2⟩ := blk3 hB3
  have hB3v := hB3
  have hT3' := hT3w
  have hR3' := hR3
  have h3' := h3
  obtain ⟨A', n', cap', hG, hG'⟩ := h3'
  have h3' := Sc.intro hG hG'
  obtain ⟨_, s1, _, _⟩ := blk2 hG
  obtain ⟨v0, v1, v2, _, _, _⟩ := blk3 hB3v
  obtain ⟨r0, r1, r2, k0, k1, k2⟩ := blk3 hR3'
  clear hB3 hT3w hR3 h3 hG hG' hB3v
  by_cases hz : ((s.uptoS 3).fail 3).err = 0
  · exact absurd hz HZ0.out
  · have HZ : Hid (((s.uptoS 3).fail 3).err ≠ 0) := hz
    have hd : ((((s.uptoS 3).fail 3).err) != 0) = true := by simpa using hz
    clear hz
    obtain rfl : (0 : Int) = K := by rw [← HK.out]; unfold Vals.getK; rw [eS.out, if_neg HZ.out]
    obtain rfl : (0 : Int) = I := by rw [← HI.out]; unfold Vals.getI; rw [eS.out, if_neg HZ.out]
    obtain rfl : [] = Tx := by rw [← HT.out]; unfold Vals.getT; rw [eS.out, if_neg HZ.out]
    go_wp2_with fail
    refine bodyPost_ret (v := .agg #[.int .i64 0, .int .i64 0, .string ⟨#[]⟩]) (by simp [results, Try.results45, go_sem, r0, r1, r2]) rfl ?_
    exact ⟨rfl, h3'.set3 hR3' (by omega), hT3'.set3 (Nat.le_refl _) _ _ _⟩
theorem rvget_at (w : World) (g : Nat) (s : Wire.St) (h : Sc w g 40 s) (hfi : s.fine) (K I : Int) (Tx : List UInt8) (s' : Wire.St) (hK : Vals.getK s = K) (hI : Vals.getI s = I) (hTx : Vals.getT s = Tx) (hs' : Vals.getS s = s') :
    Calls Try.prog 45 #[.pointer (some ⟨g, 0, none⟩)] w (Reads w g 40 (.agg #[.int .i64 K, .int .i64 I, .string ⟨Tx.toArray⟩]) s') := by
  rcases upto3 s with hv | hv | hv | hv
  · exact rvget_none w g s h hfi hv K I Tx s' hK hI hTx hs'
  · exact rvget_int w g s h hfi hv K I Tx s' hK hI hTx hs'
  · exact rvget_text w g s h hfi hv K I Tx s' hK hI hTx hs'
  · exact rvget_bool w g s h hfi hv K I Tx s' hK hI hTx hs'
end Go.Proofs.Ytcmjekchfgnbdaa
