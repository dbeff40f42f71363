/- Package value: Get. -/
import Derived.Test.YtcmjekchfgnbdaaVPut
import Derived.Test.YtcmjekchfgnbdaaWRead
namespace Go.Proofs.Ytcmjekchfgnbdaa
open Go.RowKit
theorem Touch.new_ {g : Nat} {a w : World} (h : Touch g a w) {b j : Nat} {v : Value} (hb : a.heap.size ≤ b) : Touch g a (w.setCell ⟨b, j, none⟩ v) :=
  ⟨h.os, h.tape, h.output, by simpa using h.size, fun k hk hne => (heap_setCell_other w ⟨b, j, none⟩ k v (by show k ≠ b; omega)).trans (h.block k hk hne)⟩
/-- A row of a value's three cells holds no byte. -/
theorem rd_apart3 {w : World} {g : Nat} {t : TypeId} {x y : Int} {z : ByteArray} {A : Option Addr} {bs : List UInt8} (hB : Blk w g t #[.int .i64 x, .int .i64 y, .string z]) (hr : Rd w A bs) (off : Nat) : A ≠ some ⟨g, off, none⟩ ∨ bs = [] := by
  rcases hr with rfl | ⟨g', off', rfl, hg, hc⟩
  · exact .inr rfl
  · by_cases h0 : bs = []
    · exact .inr h0
    · refine .inl fun e => ?_
      cases e
      have hl : 0 < bs.length := List.length_pos_iff.2 h0
      have h := hc 0 hl
      rw [hB.cell] at h
      rcases off with _ | _ | _ | off
      · simp at h
      · simp at h
      · simp at h
      · simp at h
theorem Sc.far3 {w : World} {g b : Nat} {t t' : TypeId} {s : Wire.St} {x y : Int} {z : ByteArray} (h : Sc w g t s) (hB : Blk w b t' #[.int .i64 x, .int .i64 y, .string z]) (hne : g ≠ b) (j : Nat) (u : Value) : Sc (w.setCell ⟨b, j, none⟩ u) g t s := by
  obtain ⟨A, n, cap, hG, h1, h2, h3, hr⟩ := h
  exact ⟨A, n, cap, hG.far (p := ⟨b, j, none⟩) hne u, h1, h2, h3, ((Touch.refl b w).set_ j u).rd hr (rd_apart3 hB hr)⟩
theorem Sc.set3 {w : World} {g b : Nat} {t t' : TypeId} {s : Wire.St} {x y x' y' : Int} {z z' : ByteArray} (h : Sc w g t s) (hB : Blk w b t' #[.int .i64 x, .int .i64 y, .string z]) (hne : g ≠ b) :
    Sc (((w.setCell ⟨b, 0, none⟩ (.int .i64 x')).setCell ⟨b, 1, none⟩ (.int .i64 y')).setCell ⟨b, 2, none⟩ (.string z')) g t s := by
  have b1 : Blk (w.setCell ⟨b, 0, none⟩ (.int .i64 x')) b t' #[.int .i64 x', .int .i64 y, .string z] := by simpa using hB.put 0 (.int .i64 x')
  have b2 : Blk ((w.setCell ⟨b, 0, none⟩ (.int .i64 x')).setCell ⟨b, 1, none⟩ (.int .i64 y')) b t' #[.int .i64 x', .int .i64 y', .string z] := by simpa using b1.put 1 (.int .i64 y')
  exact ((h.far3 hB hne 0 _).far3 b1 hne 1 _).far3 b2 hne 2 _
theorem Touch.set3 {g b : Nat} {a w : World} (h : Touch g a w) (hb : a.heap.size ≤ b) (x y z : Value) : Touch g a (((w.setCell ⟨b, 0, none⟩ x).setCell ⟨b, 1, none⟩ y).setCell ⟨b, 2, none⟩ z) :=
  ((h.new_ hb).new_ hb).new_ hb
set_option maxRecDepth 100000 in
set_option maxHeartbeats 800000 in
theorem vget_int (w : World) (g : Nat) (s : Wire.St) (h : Sc w g 64 s) (hv : s.uptoV 3 = 1) (K I : Int) (Tx : List UInt8) (s' : Wire.St) (hK : Vals.getK s = K) (hI : Vals.getI s = I) (hTx : Vals.getT s = Tx) (hs' : Vals.getS s = s') :
    Calls Try.prog 59 #[.pointer (some ⟨g, 0, none⟩)] w (Reads w g 64 (.agg #[.int .i64 K, .int .i64 I, .string ⟨Tx.toArray⟩]) s') := by
  have HV := Lib.hid hv
  have HK := Lib.hid hK
  have HI := Lib.hid hI
  have HT := Lib.hid hTx
  have eS : Vals.getS s = (s.uptoS 3).numS := by unfold Vals.getS; rw [HV.out]; rfl
  obtain rfl := eS.symm.trans hs'
  clear hv hK hI hTx hs'
  have hg := h.lt
  have h0 := h.below ((Below.refl _ _).alloc (Nat.le_refl _) (.cells #[.int .i64 0, .int .i64 0, .string ⟨#[]⟩] 23))
  obtain ⟨hB, hb0⟩ := box3 w 23 (.int .i64 0) (.int .i64 0) (.string ⟨#[]⟩)
  go_enter Try.func59, Try.ntmps59
  go_wp2_with fail
  generalize w.alloc (.cells #[.int .i64 0, .int .i64 0, .string ⟨#[]⟩] 23) = w0 at *
  refine (upto_is _ g s _ 1 h0 3 (by decide) (by decide) HV.out rfl).mono ?_
  rintro e w1 ⟨rfl, h1, hT1⟩
  have hR1 := hT1.blk hB (by omega)
  have hT1w := (Touch.of_below (g := g) hb0).trans hT1
  go_wp2_with fail
  obtain ⟨hB2, hb2⟩ := box3 w1 23 (.int .i64 1) (.int .i64 0) (.string ⟨#[]⟩)
  have hgw1 : w.heap.size ≤ w1.heap.size := hT1w.size
  have hne : w.heap.size ≠ w1.heap.size := by have := hR1.lt; omega
  have hgv : g ≠ w1.heap.size := by omega
  have h2 := h1.below hb2
  have hR2 := hR1.below hb2 hR1.lt
  have hT2w := hT1w.trans (Touch.of_below (g := g) hb2)
  generalize w1.alloc (.cells #[.int .i64 1, .int .i64 0, .string ⟨#[]⟩] 23) = w2 at *
  clear hB h h0 hb0 hT1 hR1 hT1w h1 hb2
  refine (int_at w2 g _ h2).mono ?_
  rintro e w3 ⟨rfl, h3, hT3⟩
  have hB3 := hT3.blk hB2 (by omega)
  have hR3 := hT3.blk hR2 (by omega)
  have hT3w := hT2w.trans hT3
  clear hB2 hR2 hT2w hT3 h2
  obtain ⟨d0, d1, d2, e0, e1, e2⟩ := blk3 hB3
  have hB3v := hB3.put 1 (.int .i64 (Wire.zag (s.uptoS 3).numV))
  have h3' := h3.far3 hB3 hgv 1 (.int .i64 (Wire.zag (s.uptoS 3).numV))
  simp only [List.setIfInBounds_toArray, List.set_cons_zero, List.set_cons_succ] at hB3v
  have hT3' := hT3w.new_ (j := 1) (v := (.int .i64 (Wire.zag (s.uptoS 3).numV))) hgw1
  have hR3' := hR3.far (p := ⟨w1.heap.size, 1, none⟩) hne (.int .i64 (Wire.zag (s.uptoS 3).numV))
  clear hB3 hT3w hR3 h3
  go_wp2_with fail
  clear d0 d1 d2 e0 e1 e2
  generalize w3.setCell ⟨w1.heap.size, 1, none⟩ (.int .i64 (Wire.zag (s.uptoS 3).numV)) = w4 at *
  by_cases hz : ((s.uptoS 3).numS).err = 0
  · have HZ : Hid (((s.uptoS 3).numS).err = 0) := hz
    clear hz
    obtain rfl : (1 : Int) = K := by rw [← HK.out]; unfold Vals.getK; rw [eS, if_pos HZ.out, HV.out]; rfl
    obtain rfl : (Wire.zag (s.uptoS 3).numV) = I := by rw [← HI.out]; unfold Vals.getI; rw [eS, if_pos HZ.out, HV.out]; rfl
    obtain rfl : [] = Tx := by rw [← HT.out]; unfold Vals.getT; rw [eS, if_pos HZ.out, HV.out]; rfl
    refine (err_at w4 g ((s.uptoS 3).numS) h3' _ HZ.out).mono ?_
    rintro e w5 ⟨rfl, rfl⟩
    obtain ⟨c0, c1, c2, f0, f1, f2⟩ := blk3 hB3v
    obtain ⟨d0, d1, d2, e0, e1, e2⟩ := blk3 hR3'
    clear hB3v
    go_wp2_with fail
    refine bodyPost_ret (v := .agg #[(.int .i64 1), (.int .i64 (Wire.zag (s.uptoS 3).numV)), (.string ⟨#[]⟩)]) (by simp [results, Try.results59, go_sem, d0, d1, d2]) rfl ?_
    exact ⟨rfl, h3'.set3 hR3' (by omega), hT3'.set3 (Nat.le_refl _) _ _ _⟩
  · have HZ : Hid (((s.uptoS 3).numS).err ≠ 0) := hz
    have hd : ((((s.uptoS 3).numS).err) != 0) = true := by simpa using hz
    clear hz
    obtain rfl : (0 : Int) = K := by rw [← HK.out]; unfold Vals.getK; rw [eS, if_neg HZ.out]
    obtain rfl : (0 : Int) = I := by rw [← HI.out]; unfold Vals.getI; rw [eS, if_neg HZ.out]
    obtain rfl : [] = Tx := by rw [← HT.out]; unfold Vals.getT; rw [eS, if_neg HZ.out]
    refine (err_at w4 g ((s.uptoS 3).numS) h3' _ rfl).mono ?_
    rintro e w5 ⟨rfl, rfl⟩
    obtain ⟨d0, d1, d2, e0, e1, e2⟩ := blk3 hR3'
    clear hB3v
    go_wp2_with fail
    refine bodyPost_ret (v := .agg #[.int .i64 0, .int .i64 0, .string ⟨#[]⟩]) (by simp [results, Try.results59, go_sem, d0, d1, d2]) rfl ?_
    exact ⟨rfl, h3'.set3 hR3' (by omega), hT3'.set3 (Nat.le_refl _) _ _ _⟩
set_option maxRecDepth 100000 in
set_option maxHeartbeats 800000 in
theorem vget_text (w : World) (g : Nat) (s : Wire.St) (h : Sc w g 64 s) (hv : s.uptoV 3 = 2) (K I : Int) (Tx : List UInt8) (s' : Wire.St) (hK : Vals.getK s = K) (hI : Vals.getI s = I) (hTx : Vals.getT s = Tx) (hs' : Vals.getS s = s') :
    Calls Try.prog 59 #[.pointer (some ⟨g, 0, none⟩)] w (Reads w g 64 (.agg #[.int .i64 K, .int .i64 I, .string ⟨Tx.toArray⟩]) s') := by
  have HV := Lib.hid hv
  have HK := Lib.hid hK
  have HI := Lib.hid hI
  have HT := Lib.hid hTx
  have eS : Vals.getS s = (s.uptoS 3).textS 64 := by unfold Vals.getS; rw [HV.out]; rfl
  obtain rfl := eS.symm.trans hs'
  clear hv hK hI hTx hs'
  have hg := h.lt
  have h0 := h.below ((Below.refl _ _).alloc (Nat.le_refl _) (.cells #[.int .i64 0, .int .i64 0, .string ⟨#[]⟩] 23))
  obtain ⟨hB, hb0⟩ := box3 w 23 (.int .i64 0) (.int .i64 0) (.string ⟨#[]⟩)
  go_enter Try.func59, Try.ntmps59
  go_wp2_with fail
  generalize w.alloc (.cells #[.int .i64 0, .int .i64 0, .string ⟨#[]⟩] 23) = w0 at *
  refine (upto_is _ g s _ 2 h0 3 (by decide) (by decide) HV.out rfl).mono ?_
  rintro e w1 ⟨rfl, h1, hT1⟩
  have hR1 := hT1.blk hB (by omega)
  have hT1w := (Touch.of_below (g := g) hb0).trans hT1
  go_wp2_with fail
  obtain ⟨hB2, hb2⟩ := box3 w1 23 (.int .i64 2) (.int .i64 0) (.string ⟨#[]⟩)
  have hgw1 : w.heap.size ≤ w1.heap.size := hT1w.size
  have hne : w.heap.size ≠ w1.heap.size := by have := hR1.lt; omega
  have hgv : g ≠ w1.heap.size := by omega
  have h2 := h1.below hb2
  have hR2 := hR1.below hb2 hR1.lt
  have hT2w := hT1w.trans (Touch.of_below (g := g) hb2)
  generalize w1.alloc (.cells #[.int .i64 2, .int .i64 0, .string ⟨#[]⟩] 23) = w2 at *
  clear hB h h0 hb0 hT1 hR1 hT1w h1 hb2
  refine (text_at w2 g _ h2 64 (by decide) (by decide)).mono ?_
  rintro e w3 ⟨rfl, h3, hT3⟩
  have hB3 := hT3.blk hB2 (by omega)
  have hR3 := hT3.blk hR2 (by omega)
  have hT3w := hT2w.trans hT3
  clear hB2 hR2 hT2w hT3 h2
  obtain ⟨d0, d1, d2, e0, e1, e2⟩ := blk3 hB3
  have hB3v := hB3.put 2 (.string ⟨((s.uptoS 3).textV 64).toArray⟩)
  have h3' := h3.far3 hB3 hgv 2 (.string ⟨((s.uptoS 3).textV 64).toArray⟩)
  simp only [List.setIfInBounds_toArray, List.set_cons_zero, List.set_cons_succ] at hB3v
  have hT3' := hT3w.new_ (j := 2) (v := (.string ⟨((s.uptoS 3).textV 64).toArray⟩)) hgw1
  have hR3' := hR3.far (p := ⟨w1.heap.size, 2, none⟩) hne (.string ⟨((s.uptoS 3).textV 64).toArray⟩)
  clear hB3 hT3w hR3 h3
  go_wp2_with fail
  clear d0 d1 d2 e0 e1 e2
  generalize w3.setCell ⟨w1.heap.size, 2, none⟩ (.string ⟨((s.uptoS 3).textV 64).toArray⟩) = w4 at *
  by_cases hz : ((s.uptoS 3).textS 64).err = 0
  · have HZ : Hid (((s.uptoS 3).textS 64).err = 0) := hz
    clear hz
    obtain rfl : (2 : Int) = K := by rw [← HK.out]; unfold Vals.getK; rw [eS, if_pos HZ.out, HV.out]; rfl
    obtain rfl : (0 : Int) = I := by rw [← HI.out]; unfold Vals.getI; rw [eS, if_pos HZ.out, HV.out]; rfl
    obtain rfl : ((s.uptoS 3).textV 64) = Tx := by rw [← HT.out]; unfold Vals.getT; rw [eS, if_pos HZ.out, HV.out]; rfl
    refine (err_at w4 g ((s.uptoS 3).textS 64) h3' _ HZ.out).mono ?_
    rintro e w5 ⟨rfl, rfl⟩
    obtain ⟨c0, c1, c2, f0, f1, f2⟩ := blk3 hB3v
    obtain ⟨d0, d1, d2, e0, e1, e2⟩ := blk3 hR3'
    clear hB3v
    go_wp2_with fail
    refine bodyPost_ret (v := .agg #[(.int .i64 2), (.int .i64 0), (.string ⟨((s.uptoS 3).textV 64).toArray⟩)]) (by simp [results, Try.results59, go_sem, d0, d1, d2]) rfl ?_
    exact ⟨rfl, h3'.set3 hR3' (by omega), hT3'.set3 (Nat.le_refl _) _ _ _⟩
  · have HZ : Hid (((s.uptoS 3).textS 64).err ≠ 0) := hz
    have hd : ((((s.uptoS 3).textS 64).err) != 0) = true := by simpa using hz
    clear hz
    obtain rfl : (0 : Int) = K := by rw [← HK.out]; unfold Vals.getK; rw [eS, if_neg HZ.out]
    obtain rfl : (0 : Int) = I := by rw [← HI.out]; unfold Vals.getI; rw [eS, if_neg HZ.out]
    obtain rfl : [] = Tx := by rw [← HT.out]; unfold Vals.getT; rw [eS, if_neg HZ.out]
    refine (err_at w4 g ((s.uptoS 3).textS 64) h3' _ rfl).mono ?_
    rintro e w5 ⟨rfl, rfl⟩
    obtain ⟨d0, d1, d2, e0, e1, e2⟩ := blk3 hR3'
    clear hB3v
    go_wp2_with fail
    refine bodyPost_ret (v := .agg #[.int .i64 0, .int .i64 0, .string ⟨#[]⟩]) (by simp [results, Try.results59, go_sem, d0, d1, d2]) rfl ?_
    exact ⟨rfl, h3'.set3 hR3' (by omega), hT3'.set3 (Nat.le_refl _) _ _ _⟩
set_option maxRecDepth 100000 in
set_option maxHeartbeats 800000 in
theorem vget_bool (w : World) (g : Nat) (s : Wire.St) (h : Sc w g 64 s) (hv : s.uptoV 3 = 3) (K I : Int) (Tx : List UInt8) (s' : Wire.St) (hK : Vals.getK s = K) (hI : Vals.getI s = I) (hTx : Vals.getT s = Tx) (hs' : Vals.getS s = s') :
    Calls Try.prog 59 #[.pointer (some ⟨g, 0, none⟩)] w (Reads w g 64 (.agg #[.int .i64 K, .int .i64 I, .string ⟨Tx.toArray⟩]) s') := by
  have HV := Lib.hid hv
  have HK := Lib.hid hK
  have HI := Lib.hid hI
  have HT := Lib.hid hTx
  have eS : Vals.getS s = (s.uptoS 3).uptoS 1 := by unfold Vals.getS; rw [HV.out]; rfl
  obtain rfl := eS.symm.trans hs'
  clear hv hK hI hTx hs'
  have hg := h.lt
  have h0 := h.below ((Below.refl _ _).alloc (Nat.le_refl _) (.cells #[.int .i64 0, .int .i64 0, .string ⟨#[]⟩] 23))
  obtain ⟨hB, hb0⟩ := box3 w 23 (.int .i64 0) (.int .i64 0) (.string ⟨#[]⟩)
  go_enter Try.func59, Try.ntmps59
  go_wp2_with fail
  generalize w.alloc (.cells #[.int .i64 0, .int .i64 0, .string ⟨#[]⟩] 23) = w0 at *
  refine (upto_is _ g s _ 3 h0 3 (by decide) (by decide) HV.out rfl).mono ?_
  rintro e w1 ⟨rfl, h1, hT1⟩
  have hR1 := hT1.blk hB (by omega)
  have hT1w := (Touch.of_below (g := g) hb0).trans hT1
  go_wp2_with fail
  obtain ⟨hB2, hb2⟩ := box3 w1 23 (.int .i64 3) (.int .i64 0) (.string ⟨#[]⟩)
  have hgw1 : w.heap.size ≤ w1.heap.size := hT1w.size
  have hne : w.heap.size ≠ w1.heap.size := by have := hR1.lt; omega
  have hgv : g ≠ w1.heap.size := by omega
  have h2 := h1.below hb2
  have hR2 := hR1.below hb2 hR1.lt
  have hT2w := hT1w.trans (Touch.of_below (g := g) hb2)
  generalize w1.alloc (.cells #[.int .i64 3, .int .i64 0, .string ⟨#[]⟩] 23) = w2 at *
  clear hB h h0 hb0 hT1 hR1 hT1w h1 hb2
  refine (upto_at w2 g _ h2 1 (by decide) (by decide)).mono ?_
  rintro e w3 ⟨rfl, h3, hT3⟩
  have hB3 := hT3.blk hB2 (by omega)
  have hR3 := hT3.blk hR2 (by omega)
  have hT3w := hT2w.trans hT3
  clear hB2 hR2 hT2w hT3 h2
  obtain ⟨d0, d1, d2, e0, e1, e2⟩ := blk3 hB3
  have hB3v := hB3.put 1 (.int .i64 ((s.uptoS 3).uptoV 1 : Int))
  have h3' := h3.far3 hB3 hgv 1 (.int .i64 ((s.uptoS 3).uptoV 1 : Int))
  simp only [List.setIfInBounds_toArray, List.set_cons_zero, List.set_cons_succ] at hB3v
  have hT3' := hT3w.new_ (j := 1) (v := (.int .i64 ((s.uptoS 3).uptoV 1 : Int))) hgw1
  have hR3' := hR3.far (p := ⟨w1.heap.size, 1, none⟩) hne (.int .i64 ((s.uptoS 3).uptoV 1 : Int))
  clear hB3 hT3w hR3 h3
  go_wp2_with fail
  clear d0 d1 d2 e0 e1 e2
  generalize w3.setCell ⟨w1.heap.size, 1, none⟩ (.int .i64 ((s.uptoS 3).uptoV 1 : Int)) = w4 at *
  by_cases hz : ((s.uptoS 3).uptoS 1).err = 0
  · have HZ : Hid (((s.uptoS 3).uptoS 1).err = 0) := hz
    clear hz
    obtain rfl : (3 : Int) = K := by rw [← HK.out]; unfold Vals.getK; rw [eS, if_pos HZ.out, HV.out]; rfl
    obtain rfl : ((s.uptoS 3).uptoV 1 : Int) = I := by rw [← HI.out]; unfold Vals.getI; rw [eS, if_pos HZ.out, HV.out]; rfl
    obtain rfl : [] = Tx := by rw [← HT.out]; unfold Vals.getT; rw [eS, if_pos HZ.out, HV.out]; rfl
    refine (err_at w4 g ((s.uptoS 3).uptoS 1) h3' _ HZ.out).mono ?_
    rintro e w5 ⟨rfl, rfl⟩
    obtain ⟨c0, c1, c2, f0, f1, f2⟩ := blk3 hB3v
    obtain ⟨d0, d1, d2, e0, e1, e2⟩ := blk3 hR3'
    clear hB3v
    go_wp2_with fail
    refine bodyPost_ret (v := .agg #[(.int .i64 3), (.int .i64 ((s.uptoS 3).uptoV 1 : Int)), (.string ⟨#[]⟩)]) (by simp [results, Try.results59, go_sem, d0, d1, d2]) rfl ?_
    exact ⟨rfl, h3'.set3 hR3' (by omega), hT3'.set3 (Nat.le_refl _) _ _ _⟩
  · have HZ : Hid (((s.uptoS 3).uptoS 1).err ≠ 0) := hz
    have hd : ((((s.uptoS 3).uptoS 1).err) != 0) = true := by simpa using hz
    clear hz
    obtain rfl : (0 : Int) = K := by rw [← HK.out]; unfold Vals.getK; rw [eS, if_neg HZ.out]
    obtain rfl : (0 : Int) = I := by rw [← HI.out]; unfold Vals.getI; rw [eS, if_neg HZ.out]
    obtain rfl : [] = Tx := by rw [← HT.out]; unfold Vals.getT; rw [eS, if_neg HZ.out]
    refine (err_at w4 g ((s.uptoS 3).uptoS 1) h3' _ rfl).mono ?_
    rintro e w5 ⟨rfl, rfl⟩
    obtain ⟨d0, d1, d2, e0, e1, e2⟩ := blk3 hR3'
    clear hB3v
    go_wp2_with fail
    refine bodyPost_ret (v := .agg #[.int .i64 0, .int .i64 0, .string ⟨#[]⟩]) (by simp [results, Try.results59, go_sem, d0, d1, d2]) rfl ?_
    exact ⟨rfl, h3'.set3 hR3' (by omega), hT3'.set3 (Nat.le_refl _) _ _ _⟩
set_option maxRecDepth 100000 in
set_option maxHeartbeats 800000 in
theorem vget_none (w : World) (g : Nat) (s : Wire.St) (h : Sc w g 64 s) (hv : s.uptoV 3 = 0) (K I : Int) (Tx : List UInt8) (s' : Wire.St) (hK : Vals.getK s = K) (hI : Vals.getI s = I) (hTx : Vals.getT s = Tx) (hs' : Vals.getS s = s') :
    Calls Try.prog 59 #[.pointer (some ⟨g, 0, none⟩)] w (Reads w g 64 (.agg #[.int .i64 K, .int .i64 I, .string ⟨Tx.toArray⟩]) s') := by
  have HV := Lib.hid hv
  have HK := Lib.hid hK
  have HI := Lib.hid hI
  have HT := Lib.hid hTx
  have eS : Vals.getS s = (s.uptoS 3).fail 3 := by unfold Vals.getS; rw [HV.out]; rfl
  have HZ0 : Hid (((s.uptoS 3).fail 3).err ≠ 0) := by show _ ≠ _; unfold Wire.St.fail; split <;> simp_all
  obtain rfl := eS.symm.trans hs'
  clear hv hK hI hTx hs'
  have hg := h.lt
  have h0 := h.below ((Below.refl _ _).alloc (Nat.le_refl _) (.cells #[.int .i64 0, .int .i64 0, .string ⟨#[]⟩] 23))
  obtain ⟨hB, hb0⟩ := box3 w 23 (.int .i64 0) (.int .i64 0) (.string ⟨#[]⟩)
  go_enter Try.func59, Try.ntmps59
  go_wp2_with fail
  generalize w.alloc (.cells #[.int .i64 0, .int .i64 0, .string ⟨#[]⟩] 23) = w0 at *
  refine (upto_is _ g s _ 0 h0 3 (by decide) (by decide) HV.out rfl).mono ?_
  rintro e w1 ⟨rfl, h1, hT1⟩
  have hR1 := hT1.blk hB (by omega)
  have hT1w := (Touch.of_below (g := g) hb0).trans hT1
  go_wp2_with fail
  obtain ⟨hB2, hb2⟩ := box3 w1 23 (.int .i64 0) (.int .i64 0) (.string ⟨#[]⟩)
  have hgw1 : w.heap.size ≤ w1.heap.size := hT1w.size
  have hne : w.heap.size ≠ w1.heap.size := by have := hR1.lt; omega
  have hgv : g ≠ w1.heap.size := by omega
  have h2 := h1.below hb2
  have hR2 := hR1.below hb2 hR1.lt
  have hT2w := hT1w.trans (Touch.of_below (g := g) hb2)
  generalize w1.alloc (.cells #[.int .i64 0, .int .i64 0, .string ⟨#[]⟩] 23) = w2 at *
  clear hB h h0 hb0 hT1 hR1 hT1w h1 hb2
  refine (fail_at w2 g _ h2 3).mono ?_
  rintro e w3 ⟨rfl, h3, hT3⟩
  have hB3 := hT3.blk hB2 (by omega)
  have hR3 := hT3.blk hR2 (by omega)
  have hT3w := hT2w.trans hT3
  clear hB2 hR2 hT2w hT3 h2
  obtain ⟨d0, d1, d2, e0, e1, e2⟩ := blk3 hB3
  have hB3v := hB3
  have hT3' := hT3w
  have hR3' := hR3
  have h3' := h3
  clear hB3 hT3w hR3 h3
  go_wp2_with fail
  clear d0 d1 d2 e0 e1 e2
  generalize w3 = w4 at *
  by_cases hz : ((s.uptoS 3).fail 3).err = 0
  · exact absurd hz HZ0.out
  · have HZ : Hid (((s.uptoS 3).fail 3).err ≠ 0) := hz
    have hd : ((((s.uptoS 3).fail 3).err) != 0) = true := by simpa using hz
    clear hz
    obtain rfl : (0 : Int) = K := by rw [← HK.out]; unfold Vals.getK; rw [eS, if_neg HZ.out]
    obtain rfl : (0 : Int) = I := by rw [← HI.out]; unfold Vals.getI; rw [eS, if_neg HZ.out]
    obtain rfl : [] = Tx := by rw [← HT.out]; unfold Vals.getT; rw [eS, if_neg HZ.out]
    refine (err_at w4 g ((s.uptoS 3).fail 3) h3' _ rfl).mono ?_
    rintro e w5 ⟨rfl, rfl⟩
    obtain ⟨d0, d1, d2, e0, e1, e2⟩ := blk3 hR3'
    clear hB3v
    go_wp2_with fail
    refine bodyPost_ret (v := .agg #[.int .i64 0, .int .i64 0, .string ⟨#[]⟩]) (by simp [results, Try.results59, go_sem, d0, d1, d2]) rfl ?_
    exact ⟨rfl, h3'.set3 hR3' (by omega), hT3'.set3 (Nat.le_refl _) _ _ _⟩
theorem upto3 (s : Wire.St) : s.uptoV 3 = 0 ∨ s.uptoV 3 = 1 ∨ s.uptoV 3 = 2 ∨ s.uptoV 3 = 3 := by
  have : s.uptoV 3 ≤ 3 := by
    unfold Wire.St.uptoV Wire.St.over
    split
    · omega
    · rename_i h
      simp at h; omega
  omega
theorem vget_at (w : World) (g : Nat) (s : Wire.St) (h : Sc w g 64 s) (K I : Int) (Tx : List UInt8) (s' : Wire.St) (hK : Vals.getK s = K) (hI : Vals.getI s = I) (hTx : Vals.getT s = Tx) (hs' : Vals.getS s = s') :
    Calls Try.prog 59 #[.pointer (some ⟨g, 0, none⟩)] w (Reads w g 64 (.agg #[.int .i64 K, .int .i64 I, .string ⟨Tx.toArray⟩]) s') := by
  rcases upto3 s with hv | hv | hv | hv
  · exact vget_none w g s h hv K I Tx s' hK hI hTx hs'
  · exact vget_int w g s h hv K I Tx s' hK hI hTx hs'
  · exact vget_text w g s h hv K I Tx s' hK hI hTx hs'
  · exact vget_bool w g s h hv K I Tx s' hK hI hTx hs'
end Go.Proofs.Ytcmjekchfgnbdaa
