/- Contracts of the program and of the document (VRefGet, PRefGet), each used further on. -/
import Derived.Deep.CutRange
import Derived.Test.YtckabmlilbkmbaaGreatA3
import Derived.Test.YtckabmlilbkmbaaGreatN2
set_option maxRecDepth 100000
set_option maxHeartbeats 4000000
namespace Go.Proofs.YtckabmlilbkmbaaGreat
section
open Go.RowKit
theorem refUpto_is (w : World) (g : Nat) (s s' : Wire.St) (v : Nat) (h : Sc w g 55 s) (hfi : s.fine) (m : Int) (hm1 : -9223372036854775808 <= m) (hm2 : m <= 9223372036854775807) (hv : s.uptoV m = v) (hs : s.uptoS m = s') :
  Calls Tryz.prog 85 #[.pointer (some ⟨g, 0, none⟩), .int .i64 m] w (Reads w g 55 (.int .i64 (v : Int)) s') := by
 subst hv; subst hs; exact refUpto_at w g s h hfi m hm1 hm2
theorem Sc.intro {w : World} {g : Nat} {t : TypeId} {s : Wire.St} {A : OA} {n cap : Nat} (hB : Blk w g t #[.slice A n cap, .int .i64 s.err]) (h : s.rest.length = n /\ n <= cap /\ cap <= 140737488355328 /\ Rd w A s.rest /\ Ahd A g) : Sc w g t s := ⟨A, n, cap, hB, h⟩
theorem rvget_int (w : World) (g : Nat) (s : Wire.St) (h : Sc w g 55 s) (hfi : s.fine) (hv : s.uptoV 3 = 1) (K I : Int) (Tx : LU) (s' : Wire.St) (hK : Vals.getK s = K) (hI : Vals.getI s = I) (hTx : Vals.getT s = Tx) (hs' : Vals.getS s = s') :
  Calls Tryz.prog 113 #[.pointer (some ⟨g, 0, none⟩)] w (Reads w g 55 (.agg (vC K I Tx.toArray)) s') := by
 have HV := Jh hv
 have HK := Jh hK
 have HI := Jh hI
 have HT := Jh hTx
 have eS : Hid (Vals.getS s = (s.uptoS 3).numS) := by show _ = _; unfold Vals.getS; rw [HV.o]; rfl
 obtain rfl := eS.o.symm.trans hs'
 clear hv hK hI hTx hs'
 have hfi1 := Wire.St.uptoS_fine hfi 3
 have hg := h.lt
 have h0 := h.below ((Below.refl _ _).alloc (Jn) (.cells (vC 0 0 #[]) 62))
 obtain ⟨hB, hb0⟩ := box3 w 62 (.int .i64 0) (.int .i64 0) (.string ⟨#[]⟩)
 go_enter Tryz.func113, Tryz.ntmps113
 go_wp2_with fail
 generalize w.alloc (.cells (vC 0 0 #[]) 62) = w0 at *
 refine (refUpto_is _ g s _ 1 h0 hfi 3 (by decide) (by decide) HV.o rfl).mono ?_
 rintro e w1 ⟨rfl, h1, hT1⟩
 have hR1 := hT1.blk hB (by omega)
 have hT1w := (Touch.of_below (g := g) hb0).trans hT1
 go_wp2_with fail
 obtain ⟨hB2, hb2⟩ := box3 w1 62 (.int .i64 1) (.int .i64 0) (.string ⟨#[]⟩)
 have hgw1 : w.heap.size <= w1.heap.size := hT1w.size
 have hne : w.heap.size ≠ w1.heap.size := by have := hR1.lt; omega
 have hgv : g ≠ w1.heap.size := by omega
 have h2 := h1.below hb2
 have hR2 := hR1.below hb2 hR1.lt
 have hT2w := hT1w.trans (Touch.of_below (g := g) hb2)
 generalize w1.alloc (.cells (vC 1 0 #[]) 62) = w2 at *
 clear hB h h0 hb0 hT1 hR1 hT1w h1 hb2
 refine (refInt_at w2 g _ h2 hfi1).mono ?_
 rintro e w3 ⟨rfl, h3, hT3⟩
 have hB3 := hT3.blk hB2 (by omega)
 have hR3 := hT3.blk hR2 (by omega)
 have hT3w := hT2w.trans hT3
 clear hB2 hR2 hT2w hT3 h2
 obtain ⟨d0, d1, d2, e0, e1, e2⟩ := blk3 hB3
 have hB3v := hB3.put 1 (.int .i64 (Wire.zag (s.uptoS 3).numV))
 have h3' := h3.far3 hB3 hgv 1 (.int .i64 (Wire.zag (s.uptoS 3).numV))
 simp only [List.setIfInBounds_toArray, List.set_cons_zero, List.set_cons_succ] at hB3v
 have hT3' := hT3w.new_ (j := 1) (v := (.int .i64 (Wire.zag (s.uptoS 3).numV))) hgw1
 have hR3' := hR3.far (p := ⟨w1.heap.size, 1, none⟩) hne (.int .i64 (Wire.zag (s.uptoS 3).numV))
 obtain ⟨A', n', cap', hG, hG'⟩ := h3'
 have h3' := Sc.intro hG hG'
 obtain ⟨_, s1, _, _⟩ := blk2 hG
 obtain ⟨v0, v1, v2, _, _, _⟩ := blk3 hB3v
 obtain ⟨r0, r1, r2, k0, k1, k2⟩ := blk3 hR3'
 clear hB3 hT3w hR3 h3 hG hG' hB3v
 by_cases hz : ((s.uptoS 3).numS).err = 0
 ·have HZ : Hid (((s.uptoS 3).numS).err = 0) := hz
  rw [hz] at s1
  clear hz
  obtain rfl : (1 : Int) = K := by rw [<- HK.o]; unfold Vals.getK; rw [eS.o, if_pos HZ.o, HV.o]; rfl
  obtain rfl : (Wire.zag (s.uptoS 3).numV) = I := by rw [<- HI.o]; unfold Vals.getI; rw [eS.o, if_pos HZ.o, HV.o]; rfl
  obtain rfl : [] = Tx := by rw [<- HT.o]; unfold Vals.getT; rw [eS.o, if_pos HZ.o, HV.o]; rfl
  go_wp2_with fail
  refine bodyPost_ret (v := .agg #[(.int .i64 1), (.int .i64 (Wire.zag (s.uptoS 3).numV)), (.string ⟨#[]⟩)]) (by simp [results, Tryz.results113, go_sem, r0, r1, r2]) rfl ?_
  exact ⟨rfl, h3'.set3 hR3' (by omega), hT3'.set3 (Jn) _ _ _⟩
 ·have HZ : Hid (((s.uptoS 3).numS).err ≠ 0) := hz
  have hd : ((((s.uptoS 3).numS).err) != 0) = true := by simpa using hz
  clear hz
  obtain rfl : (0 : Int) = K := by rw [<- HK.o]; unfold Vals.getK; rw [eS.o, if_neg HZ.o]
  obtain rfl : (0 : Int) = I := by rw [<- HI.o]; unfold Vals.getI; rw [eS.o, if_neg HZ.o]
  obtain rfl : [] = Tx := by rw [<- HT.o]; unfold Vals.getT; rw [eS.o, if_neg HZ.o]
  go_wp2_with fail
  refine bodyPost_ret (v := .agg (vC 0 0 #[])) (by simp [results, Tryz.results113, go_sem, r0, r1, r2]) rfl ?_
  exact ⟨rfl, h3'.set3 hR3' (by omega), hT3'.set3 (Jn) _ _ _⟩
theorem rvget_text (w : World) (g : Nat) (s : Wire.St) (h : Sc w g 55 s) (hfi : s.fine) (hv : s.uptoV 3 = 2) (K I : Int) (Tx : LU) (s' : Wire.St) (hK : Vals.getK s = K) (hI : Vals.getI s = I) (hTx : Vals.getT s = Tx) (hs' : Vals.getS s = s') :
  Calls Tryz.prog 113 #[.pointer (some ⟨g, 0, none⟩)] w (Reads w g 55 (.agg (vC K I Tx.toArray)) s') := by
 have HV := Jh hv
 have HK := Jh hK
 have HI := Jh hI
 have HT := Jh hTx
 have eS : Hid (Vals.getS s = (s.uptoS 3).textS 64) := by show _ = _; unfold Vals.getS; rw [HV.o]; rfl
 obtain rfl := eS.o.symm.trans hs'
 clear hv hK hI hTx hs'
 have hfi1 := Wire.St.uptoS_fine hfi 3
 have hg := h.lt
 have h0 := h.below ((Below.refl _ _).alloc (Jn) (.cells (vC 0 0 #[]) 62))
 obtain ⟨hB, hb0⟩ := box3 w 62 (.int .i64 0) (.int .i64 0) (.string ⟨#[]⟩)
 go_enter Tryz.func113, Tryz.ntmps113
 go_wp2_with fail
 generalize w.alloc (.cells (vC 0 0 #[]) 62) = w0 at *
 refine (refUpto_is _ g s _ 2 h0 hfi 3 (by decide) (by decide) HV.o rfl).mono ?_
 rintro e w1 ⟨rfl, h1, hT1⟩
 have hR1 := hT1.blk hB (by omega)
 have hT1w := (Touch.of_below (g := g) hb0).trans hT1
 go_wp2_with fail
 obtain ⟨hB2, hb2⟩ := box3 w1 62 (.int .i64 2) (.int .i64 0) (.string ⟨#[]⟩)
 have hgw1 : w.heap.size <= w1.heap.size := hT1w.size
 have hne : w.heap.size ≠ w1.heap.size := by have := hR1.lt; omega
 have hgv : g ≠ w1.heap.size := by omega
 have h2 := h1.below hb2
 have hR2 := hR1.below hb2 hR1.lt
 have hT2w := hT1w.trans (Touch.of_below (g := g) hb2)
 generalize w1.alloc (.cells (vC 2 0 #[]) 62) = w2 at *
 clear hB h h0 hb0 hT1 hR1 hT1w h1 hb2
 refine (refText_at w2 g _ h2 hfi1 64 (by decide) (by decide)).mono ?_
 rintro e w3 ⟨rfl, h3, hT3⟩
 have hB3 := hT3.blk hB2 (by omega)
 have hR3 := hT3.blk hR2 (by omega)
 have hT3w := hT2w.trans hT3
 clear hB2 hR2 hT2w hT3 h2
 obtain ⟨d0, d1, d2, e0, e1, e2⟩ := blk3 hB3
 have hB3v := hB3.put 2 (.string ⟨((s.uptoS 3).textV 64).toArray⟩)
 have h3' := h3.far3 hB3 hgv 2 (.string ⟨((s.uptoS 3).textV 64).toArray⟩)
 simp only [List.setIfInBounds_toArray, List.set_cons_zero, List.set_cons_succ] at hB3v
 have hT3' := hT3w.new_ (j := 2) (v := (.string ⟨((s.uptoS 3).textV 64).toArray⟩)) hgw1
 have hR3' := hR3.far (p := ⟨w1.heap.size, 2, none⟩) hne (.string ⟨((s.uptoS 3).textV 64).toArray⟩)
 obtain ⟨A', n', cap', hG, hG'⟩ := h3'
 have h3' := Sc.intro hG hG'
 obtain ⟨_, s1, _, _⟩ := blk2 hG
 obtain ⟨v0, v1, v2, _, _, _⟩ := blk3 hB3v
 obtain ⟨r0, r1, r2, k0, k1, k2⟩ := blk3 hR3'
 clear hB3 hT3w hR3 h3 hG hG' hB3v
 by_cases hz : ((s.uptoS 3).textS 64).err = 0
 ·have HZ : Hid (((s.uptoS 3).textS 64).err = 0) := hz
  rw [hz] at s1
  clear hz
  obtain rfl : (2 : Int) = K := by rw [<- HK.o]; unfold Vals.getK; rw [eS.o, if_pos HZ.o, HV.o]; rfl
  obtain rfl : (0 : Int) = I := by rw [<- HI.o]; unfold Vals.getI; rw [eS.o, if_pos HZ.o, HV.o]; rfl
  obtain rfl : ((s.uptoS 3).textV 64) = Tx := by rw [<- HT.o]; unfold Vals.getT; rw [eS.o, if_pos HZ.o, HV.o]; rfl
  go_wp2_with fail
  refine bodyPost_ret (v := .agg #[(.int .i64 2), (.int .i64 0), (.string ⟨((s.uptoS 3).textV 64).toArray⟩)]) (by simp [results, Tryz.results113, go_sem, r0, r1, r2]) rfl ?_
  exact ⟨rfl, h3'.set3 hR3' (by omega), hT3'.set3 (Jn) _ _ _⟩
 ·have HZ : Hid (((s.uptoS 3).textS 64).err ≠ 0) := hz
  have hd : ((((s.uptoS 3).textS 64).err) != 0) = true := by simpa using hz
  clear hz
  obtain rfl : (0 : Int) = K := by rw [<- HK.o]; unfold Vals.getK; rw [eS.o, if_neg HZ.o]
  obtain rfl : (0 : Int) = I := by rw [<- HI.o]; unfold Vals.getI; rw [eS.o, if_neg HZ.o]
  obtain rfl : [] = Tx := by rw [<- HT.o]; unfold Vals.getT; rw [eS.o, if_neg HZ.o]
  go_wp2_with fail
  refine bodyPost_ret (v := .agg (vC 0 0 #[])) (by simp [results, Tryz.results113, go_sem, r0, r1, r2]) rfl ?_
  exact ⟨rfl, h3'.set3 hR3' (by omega), hT3'.set3 (Jn) _ _ _⟩
theorem rvget_bool (w : World) (g : Nat) (s : Wire.St) (h : Sc w g 55 s) (hfi : s.fine) (hv : s.uptoV 3 = 3) (K I : Int) (Tx : LU) (s' : Wire.St) (hK : Vals.getK s = K) (hI : Vals.getI s = I) (hTx : Vals.getT s = Tx) (hs' : Vals.getS s = s') :
  Calls Tryz.prog 113 #[.pointer (some ⟨g, 0, none⟩)] w (Reads w g 55 (.agg (vC K I Tx.toArray)) s') := by
 have HV := Jh hv
 have HK := Jh hK
 have HI := Jh hI
 have HT := Jh hTx
 have eS : Hid (Vals.getS s = (s.uptoS 3).uptoS 1) := by show _ = _; unfold Vals.getS; rw [HV.o]; rfl
 obtain rfl := eS.o.symm.trans hs'
 clear hv hK hI hTx hs'
 have hfi1 := Wire.St.uptoS_fine hfi 3
 have hg := h.lt
 have h0 := h.below ((Below.refl _ _).alloc (Jn) (.cells (vC 0 0 #[]) 62))
 obtain ⟨hB, hb0⟩ := box3 w 62 (.int .i64 0) (.int .i64 0) (.string ⟨#[]⟩)
 go_enter Tryz.func113, Tryz.ntmps113
 go_wp2_with fail
 generalize w.alloc (.cells (vC 0 0 #[]) 62) = w0 at *
 refine (refUpto_is _ g s _ 3 h0 hfi 3 (by decide) (by decide) HV.o rfl).mono ?_
 rintro e w1 ⟨rfl, h1, hT1⟩
 have hR1 := hT1.blk hB (by omega)
 have hT1w := (Touch.of_below (g := g) hb0).trans hT1
 go_wp2_with fail
 obtain ⟨hB2, hb2⟩ := box3 w1 62 (.int .i64 3) (.int .i64 0) (.string ⟨#[]⟩)
 have hgw1 : w.heap.size <= w1.heap.size := hT1w.size
 have hne : w.heap.size ≠ w1.heap.size := by have := hR1.lt; omega
 have hgv : g ≠ w1.heap.size := by omega
 have h2 := h1.below hb2
 have hR2 := hR1.below hb2 hR1.lt
 have hT2w := hT1w.trans (Touch.of_below (g := g) hb2)
 generalize w1.alloc (.cells (vC 3 0 #[]) 62) = w2 at *
 clear hB h h0 hb0 hT1 hR1 hT1w h1 hb2
 refine (refUpto_at w2 g _ h2 hfi1 1 (by decide) (by decide)).mono ?_
 rintro e w3 ⟨rfl, h3, hT3⟩
 have hB3 := hT3.blk hB2 (by omega)
 have hR3 := hT3.blk hR2 (by omega)
 have hT3w := hT2w.trans hT3
 clear hB2 hR2 hT2w hT3 h2
 obtain ⟨d0, d1, d2, e0, e1, e2⟩ := blk3 hB3
 have hB3v := hB3.put 1 (.int .i64 ((s.uptoS 3).uptoV 1 : Int))
 have h3' := h3.far3 hB3 hgv 1 (.int .i64 ((s.uptoS 3).uptoV 1 : Int))
 simp only [List.setIfInBounds_toArray, List.set_cons_zero, List.set_cons_succ] at hB3v
 have hT3' := hT3w.new_ (j := 1) (v := (.int .i64 ((s.uptoS 3).uptoV 1 : Int))) hgw1
 have hR3' := hR3.far (p := ⟨w1.heap.size, 1, none⟩) hne (.int .i64 ((s.uptoS 3).uptoV 1 : Int))
 obtain ⟨A', n', cap', hG, hG'⟩ := h3'
 have h3' := Sc.intro hG hG'
 obtain ⟨_, s1, _, _⟩ := blk2 hG
 obtain ⟨v0, v1, v2, _, _, _⟩ := blk3 hB3v
 obtain ⟨r0, r1, r2, k0, k1, k2⟩ := blk3 hR3'
 clear hB3 hT3w hR3 h3 hG hG' hB3v
 by_cases hz : ((s.uptoS 3).uptoS 1).err = 0
 ·have HZ : Hid (((s.uptoS 3).uptoS 1).err = 0) := hz
  rw [hz] at s1
  clear hz
  obtain rfl : (3 : Int) = K := by rw [<- HK.o]; unfold Vals.getK; rw [eS.o, if_pos HZ.o, HV.o]; rfl
  obtain rfl : ((s.uptoS 3).uptoV 1 : Int) = I := by rw [<- HI.o]; unfold Vals.getI; rw [eS.o, if_pos HZ.o, HV.o]; rfl
  obtain rfl : [] = Tx := by rw [<- HT.o]; unfold Vals.getT; rw [eS.o, if_pos HZ.o, HV.o]; rfl
  go_wp2_with fail
  refine bodyPost_ret (v := .agg #[(.int .i64 3), (.int .i64 ((s.uptoS 3).uptoV 1 : Int)), (.string ⟨#[]⟩)]) (by simp [results, Tryz.results113, go_sem, r0, r1, r2]) rfl ?_
  exact ⟨rfl, h3'.set3 hR3' (by omega), hT3'.set3 (Jn) _ _ _⟩
 ·have HZ : Hid (((s.uptoS 3).uptoS 1).err ≠ 0) := hz
  have hd : ((((s.uptoS 3).uptoS 1).err) != 0) = true := by simpa using hz
  clear hz
  obtain rfl : (0 : Int) = K := by rw [<- HK.o]; unfold Vals.getK; rw [eS.o, if_neg HZ.o]
  obtain rfl : (0 : Int) = I := by rw [<- HI.o]; unfold Vals.getI; rw [eS.o, if_neg HZ.o]
  obtain rfl : [] = Tx := by rw [<- HT.o]; unfold Vals.getT; rw [eS.o, if_neg HZ.o]
  go_wp2_with fail
  refine bodyPost_ret (v := .agg (vC 0 0 #[])) (by simp [results, Tryz.results113, go_sem, r0, r1, r2]) rfl ?_
  exact ⟨rfl, h3'.set3 hR3' (by omega), hT3'.set3 (Jn) _ _ _⟩
theorem rvget_none (w : World) (g : Nat) (s : Wire.St) (h : Sc w g 55 s) (hfi : s.fine) (hv : s.uptoV 3 = 0) (K I : Int) (Tx : LU) (s' : Wire.St) (hK : Vals.getK s = K) (hI : Vals.getI s = I) (hTx : Vals.getT s = Tx) (hs' : Vals.getS s = s') :
  Calls Tryz.prog 113 #[.pointer (some ⟨g, 0, none⟩)] w (Reads w g 55 (.agg (vC K I Tx.toArray)) s') := by
 have HV := Jh hv
 have HK := Jh hK
 have HI := Jh hI
 have HT := Jh hTx
 have eS : Hid (Vals.getS s = (s.uptoS 3).fail 3) := by show _ = _; unfold Vals.getS; rw [HV.o]; rfl
 have HZ0 : Hid (((s.uptoS 3).fail 3).err ≠ 0) := by show _ ≠ _; unfold Wire.St.fail; split <;> simp_all
 obtain rfl := eS.o.symm.trans hs'
 clear hv hK hI hTx hs'
 have hfi1 := Wire.St.uptoS_fine hfi 3
 have hg := h.lt
 have h0 := h.below ((Below.refl _ _).alloc (Jn) (.cells (vC 0 0 #[]) 62))
 obtain ⟨hB, hb0⟩ := box3 w 62 (.int .i64 0) (.int .i64 0) (.string ⟨#[]⟩)
 go_enter Tryz.func113, Tryz.ntmps113
 go_wp2_with fail
 generalize w.alloc (.cells (vC 0 0 #[]) 62) = w0 at *
 refine (refUpto_is _ g s _ 0 h0 hfi 3 (by decide) (by decide) HV.o rfl).mono ?_
 rintro e w1 ⟨rfl, h1, hT1⟩
 have hR1 := hT1.blk hB (by omega)
 have hT1w := (Touch.of_below (g := g) hb0).trans hT1
 go_wp2_with fail
 obtain ⟨hB2, hb2⟩ := box3 w1 62 (.int .i64 0) (.int .i64 0) (.string ⟨#[]⟩)
 have hgw1 : w.heap.size <= w1.heap.size := hT1w.size
 have hne : w.heap.size ≠ w1.heap.size := by have := hR1.lt; omega
 have hgv : g ≠ w1.heap.size := by omega
 have h2 := h1.below hb2
 have hR2 := hR1.below hb2 hR1.lt
 have hT2w := hT1w.trans (Touch.of_below (g := g) hb2)
 generalize w1.alloc (.cells (vC 0 0 #[]) 62) = w2 at *
 clear hB h h0 hb0 hT1 hR1 hT1w h1 hb2
 refine (refFail_at w2 g _ h2 hfi1 3).mono ?_
 rintro e w3 ⟨rfl, h3, hT3⟩
 have hB3 := hT3.blk hB2 (by omega)
 have hR3 := hT3.blk hR2 (by omega)
 have hT3w := hT2w.trans hT3
 clear hB2 hR2 hT2w hT3 h2
 obtain ⟨d0, d1, d2, e0, e1, e2⟩ := blk3 hB3
 have hB3v := hB3
 have hT3' := hT3w
 have hR3' := hR3
 have h3' := h3
 obtain ⟨A', n', cap', hG, hG'⟩ := h3'
 have h3' := Sc.intro hG hG'
 obtain ⟨_, s1, _, _⟩ := blk2 hG
 obtain ⟨v0, v1, v2, _, _, _⟩ := blk3 hB3v
 obtain ⟨r0, r1, r2, k0, k1, k2⟩ := blk3 hR3'
 clear hB3 hT3w hR3 h3 hG hG' hB3v
 by_cases hz : ((s.uptoS 3).fail 3).err = 0
 ·exact absurd hz HZ0.o
 ·have HZ : Hid (((s.uptoS 3).fail 3).err ≠ 0) := hz
  have hd : ((((s.uptoS 3).fail 3).err) != 0) = true := by simpa using hz
  clear hz
  obtain rfl : (0 : Int) = K := by rw [<- HK.o]; unfold Vals.getK; rw [eS.o, if_neg HZ.o]
  obtain rfl : (0 : Int) = I := by rw [<- HI.o]; unfold Vals.getI; rw [eS.o, if_neg HZ.o]
  obtain rfl : [] = Tx := by rw [<- HT.o]; unfold Vals.getT; rw [eS.o, if_neg HZ.o]
  go_wp2_with fail
  refine bodyPost_ret (v := .agg (vC 0 0 #[])) (by simp [results, Tryz.results113, go_sem, r0, r1, r2]) rfl ?_
  exact ⟨rfl, h3'.set3 hR3' (by omega), hT3'.set3 (Jn) _ _ _⟩
theorem rvget_at (w : World) (g : Nat) (s : Wire.St) (h : Sc w g 55 s) (hfi : s.fine) (K I : Int) (Tx : LU) (s' : Wire.St) (hK : Vals.getK s = K) (hI : Vals.getI s = I) (hTx : Vals.getT s = Tx) (hs' : Vals.getS s = s') :
  Calls Tryz.prog 113 #[.pointer (some ⟨g, 0, none⟩)] w (Reads w g 55 (.agg (vC K I Tx.toArray)) s') := by
 rcases upto3 s with hv | hv | hv | hv
 ·exact rvget_none w g s h hfi hv K I Tx s' hK hI hTx hs'
 ·exact rvget_int w g s h hfi hv K I Tx s' hK hI hTx hs'
 ·exact rvget_text w g s h hfi hv K I Tx s' hK hI hTx hs'
 ·exact rvget_bool w g s h hfi hv K I Tx s' hK hI hTx hs'
end
section
open Go.RowKit
structure PG (w wx : World) (g b : Nat) (s : Wire.St) (n : LU) (o k i : Int) (t : LU) : Prop where
 sc : Sc wx g 55 s
 c : Blk wx b 64 (pC n.toArray o k i t.toArray)
 r : Blk wx w.heap.size 64 (pC #[] 0 0 0 #[])
 t : Touch g w wx
 g1 : g < w.heap.size
 g2 : w.heap.size < b
theorem PG.step {w wx wy : World} {g b : Nat} {s s' : Wire.St} {n : LU} {o k i : Int} {t : LU} (h : PG w wx g b s n o k i t) (hS : Sc wy g 55 s') (hT : Touch g wx wy) : PG w wy g b s' n o k i t :=
 ⟨hS, hT.blk h.c (by have := h.g1; have := h.g2; omega), hT.blk h.r (by have := h.g1; omega), h.t.trans hT, h.g1, h.g2⟩
theorem PG.to {w wx : World} {g b : Nat} {s s' : Wire.St} {n : LU} {o k i o' k' i' : Int} {t t' : LU} (h : PG w wx g b s n o k i t) (e : s = s') (e1 : o = o') (e2 : k = k') (e3 : i = i') (e4 : t = t') : PG w wx g b s' n o' k' i' t' := by
 subst e e1 e2 e3 e4; exact h
theorem PG.op {w wx : World} {g b : Nat} {s : Wire.St} {n : LU} {o k i : Int} {t : LU} (h : PG w wx g b s n o k i t) (o' : Int) : PG w (wx.setCell ⟨b, 1, none⟩ (.int .i64 o')) g b s n o' k i t := by
 have hC := h.c.put 1 (.int .i64 o')
 simp only [List.setIfInBounds_toArray, List.set_cons_zero, List.set_cons_succ] at hC
 exact ⟨h.sc.farN h.c (noByte5 _ _ _ _ _) (by have := h.g1; have := h.g2; omega) 1 _, hC, h.r.far (p := ⟨b, 1, none⟩) (by have := h.g2; show w.heap.size ≠ b; omega) _, h.t.new_ (j := 1) (by have := h.g2; omega), h.g1, h.g2⟩
theorem PG.val {w wx : World} {g b : Nat} {s : Wire.St} {n : LU} {o k i : Int} {t : LU} (h : PG w wx g b s n o k i t) (k' i' : Int) (t' : LU) : PG w (setV wx b k' i' ⟨t'.toArray⟩) g b s n o k' i' t' :=
 ⟨h.sc.setV_ h.c (noByte5 _ _ _ _ _) (by have := h.g1; have := h.g2; omega) k' i' _, h.c.setV_ k' i' _, h.r.farV (by have := h.g2; omega) k' i' _, h.t.setV_ (by have := h.g2; omega) k' i' _, h.g1, h.g2⟩
theorem rpget_at (w : World) (g : Nat) (s : Wire.St) (h : Sc w g 55 s) (hfi : s.fine) (N : LU) (O K I : Int) (Tx : LU) (s' : Wire.St) (hN : Preds.getN s = N) (hO : Preds.getO s = O) (hK : Preds.getK s = K) (hI : Preds.getI s = I) (hTx : Preds.getT s = Tx) (hs' : Preds.getS s = s') :
  Calls Tryz.prog 87 #[.pointer (some ⟨g, 0, none⟩)] w (Reads w g 55 (.agg (pC N.toArray O K I Tx.toArray)) s') := by
 have HG : Hid ((Preds.getS s).err = 0 -> s.textV 16 = N /\ (Preds.rawO s : Int) = O /\ Preds.rawK s = K /\ Preds.rawI s = I /\ Preds.rawT s = Tx) := fun hz => by
  obtain ⟨g1, g2, g3, g4, g5⟩ := Preds.get_good s hz
  exact ⟨g1.symm.trans hN, g2.symm.trans hO, g3.symm.trans hK, g4.symm.trans hI, g5.symm.trans hTx⟩
 have HBD : Hid ((Preds.getS s).err ≠ 0 -> [] = N /\ 0 = O /\ 0 = K /\ 0 = I /\ [] = Tx) := fun hz => by
  obtain ⟨g1, g2, g3, g4, g5⟩ := Preds.get_bad s hz
  exact ⟨g1.symm.trans hN, g2.symm.trans hO, g3.symm.trans hK, g4.symm.trans hI, g5.symm.trans hTx⟩
 have hR := Preds.rawO_le s
 have fN := Jh (Preds.nameS_fine hfi)
 have fO : Hid ((Preds.behind s).fine) := Preds.opS_fine (Preds.nameS_fine hfi)
 have fT := Jh (Wire.St.textS_fine hfi 16)
 have fU := Jh (Wire.St.uptoS_fine fN.o 8)
 have fV := Jh (Vals.getS_fine fO.o)
 have hl := vgetT_le (Preds.behind s)
 obtain ⟨nm, hnm⟩ : ∃ nm, Hid (s.textV 16 = nm) := ⟨_, rfl⟩
 obtain ⟨q, hq⟩ : ∃ q, Hid (Preds.rawO s = q) := ⟨_, rfl⟩
 obtain ⟨s1, es1⟩ : ∃ x, Hid (s.textS 16 = x) := ⟨_, rfl⟩
 obtain ⟨s2, es2⟩ : ∃ x, Hid (Preds.nameS s = x) := ⟨_, rfl⟩
 obtain ⟨s3, es3⟩ : ∃ x, Hid (s2.uptoS 8 = x) := ⟨_, rfl⟩
 obtain ⟨s4, es4⟩ : ∃ x, Hid (Preds.behind s = x) := ⟨_, rfl⟩
 obtain ⟨s5, es5⟩ : ∃ x, Hid ((if q = 8 then s4 else Vals.getS s4) = x) := ⟨_, rfl⟩
 obtain ⟨k, hk⟩ : ∃ x, Hid (Preds.rawK s = x) := ⟨_, rfl⟩
 obtain ⟨i, hi⟩ : ∃ x, Hid (Preds.rawI s = x) := ⟨_, rfl⟩
 obtain ⟨t, ht⟩ : ∃ x, Hid (Preds.rawT s = x) := ⟨_, rfl⟩
 have hx := fun w0 h0 => refText_at w0 g s h0 hfi 16 (by decide) (by decide)
 have hy := fun w0 h0 => refUpto_is w0 g s2 s3 q h0 (es2.o ▸ fN.o) 8 (by decide) (by decide) (by rw [<- es2.o]; exact hq.o) es3.o
 have hv := fun w0 h0 => rvget_at w0 g s4 h0 (es4.o ▸ fO.o) _ _ _ _ rfl rfl rfl rfl
 have E2 : Hid (s2 = if nm = [] then s1.fail 3 else s1) := by show _ = _; rw [<- es2.o, <- hnm.o, <- es1.o]; rfl
 have E4 : Hid (s4 = if q = 0 then s3.fail 3 else s3) := by show _ = _; rw [<- es4.o, <- es3.o, <- hq.o, <- es2.o]; rfl
 have EK : Hid (k = if q = 8 then 0 else Vals.getK s4) := by show _ = _; rw [<- hk.o, <- hq.o, <- es4.o]; rfl
 have EI : Hid (i = if q = 8 then 0 else Vals.getI s4) := by show _ = _; rw [<- hi.o, <- hq.o, <- es4.o]; rfl
 have ET : Hid (t = if q = 8 then [] else Vals.getT s4) := by show _ = _; rw [<- ht.o, <- hq.o, <- es4.o]; rfl
 have E6 : Hid (s' = if Preds.wrong q k t then s5.fail 3 else s5) := by
  show _ = _
  rw [EK.o, ET.o, <- es5.o, <- hs']
  unfold Preds.getS Preds.sideS
  rw [hq.o, es4.o]
  by_cases h8 : q = 8
  ·subst h8; simp [Preds.wrong]
  ·simp only [if_neg h8]
 rw [hs', hnm.o, hq.o, hk.o, hi.o, ht.o] at HG
 rw [hs'] at HBD
 rw [es4.o] at hl fO fV
 rw [hq.o] at hR
 rw [es1.o] at fT
 rw [es2.o, es3.o] at fU
 have hT : t.length <= 64 := by rw [ET.o]; split <;> simp [hl]
 have f5 : Hid (s5.fine) := by
  show s5.fine
  rw [<- es5.o]
  by_cases h8 : q = 8
  ·rw [if_pos h8]; exact fO.o
  ·rw [if_neg h8]; exact fV.o
 clear hN hO hK hI hTx hs' hq hk hi ht es4 fN hl
 rw [hnm.o, es1.o] at hx
 clear hnm es1 es2 es3
 have hg := h.lt
 obtain ⟨hB, hb0⟩ := box5 w 64 (.string ⟨#[]⟩) (.int .i64 0) (.int .i64 0) (.int .i64 0) (.string ⟨#[]⟩)
 have h0 := h.below hb0
 go_enter Tryz.func87, Tryz.ntmps87
 go_wp2_with fail
 generalize w.alloc (.cells (pC #[] 0 0 0 #[]) 64) = w0 at *
 refine (hx w0 h0).mono ?_
 rintro e w1 ⟨rfl, h1, hT1⟩
 have hR1 := hT1.blk hB (by omega)
 have hT1w := (Touch.of_below (g := g) hb0).trans hT1
 clear h h0 hB hb0 hT1 hx
 obtain ⟨hC2, hb2⟩ := box5 w1 64 (.string ⟨nm.toArray⟩) (.int .i64 0) (.int .i64 0) (.int .i64 0) (.string ⟨#[]⟩)
 have P := Jh (PG.mk (w := w) (n := nm) (t := []) (h1.below hb2) hC2 (hR1.below hb2 hR1.lt) (hT1w.trans (Touch.of_below (g := g) hb2)) hg hR1.lt)
 clear h1 hR1 hT1w hb2 hC2 hg
 go_upto_if 9 with fail
 generalize w1.heap.size = b at *
 generalize w1.alloc (.cells (pC nm.toArray 0 0 0 #[]) 64) = w2 at *
 go_cut [] from 4 (fun wx => Hid (PG w wx g b s2 nm 0 0 0 []))
 case first =>
  by_cases hE : nm = []
  ·have hd : nm.isEmpty = true := by simp [hE]
   have e2 : Hid (s1.fail 3 = s2) := by show _ = _; rw [E2.o, if_pos hE]
   clear hE
   rw [hd]
   go_wp2_with fail
   refine (refFail_at w2 g s1 P.o.sc fT.o 3).mono ?_
   rintro e w3 ⟨rfl, h3, hT3⟩
   go_wp2_with fail
   go_meet
   case rel => exact (P.o.step h3 hT3).to e2.o rfl rfl rfl rfl
  ·have hd : nm.isEmpty = false := by simpa using hE
   have e2 : Hid (s1 = s2) := by show _ = _; rw [E2.o, if_neg hE]
   clear hE
   rw [hd]
   go_wp2_with fail
   go_meet
   case rel => exact P.o.to e2.o rfl rfl rfl rfl
 case rest =>
  clear P E2 fT
  go_wp2_with fail
  refine (hy wc hcut.o.sc).mono ?_
  rintro e w3 ⟨rfl, h3, hT3⟩
  have P3 := Jh (hcut.o.step h3 hT3)
  clear hcut h3 hT3 hy
  obtain ⟨d0, d1, d2, d3, d4, c0, c1, c2, c3, c4⟩ := blk5 P3.o.c
  have P4 := Jh (P3.o.op q)
  clear P3
  go_upto_if 17 with fail
  clear d0 d1 d2 d3 d4 c0 c1 c2 c3 c4
  generalize w3.setCell ⟨b, 1, none⟩ (.int .i64 q) = w4 at *
  go_cut [] from 4 (fun wx => Hid (PG w wx g b s4 nm q 0 0 []))
  case first =>
   by_cases hE : q = 0
   ·have hd : ((q : Int) == 0) = true := by simp [hE]
    have e2 : Hid (s3.fail 3 = s4) := by show _ = _; rw [E4.o, if_pos hE]
    clear hE
    go_wp2_with fail
    refine (refFail_at w4 g s3 P4.o.sc fU.o 3).mono ?_
    rintro e w5 ⟨rfl, h5, hT5⟩
    go_wp2_with fail
    go_meet
    case rel => exact (P4.o.step h5 hT5).to e2.o rfl rfl rfl rfl
   ·have hd : ((q : Int) == 0) = false := by simpa using hE
    have e2 : Hid (s3 = s4) := by show _ = _; rw [E4.o, if_neg hE]
    clear hE
    go_wp2_with fail
    go_meet
    case rel => exact P4.o.to e2.o rfl rfl rfl rfl
  case rest =>
   clear P4 E4 fU
   have P5 := hcut
   clear hcut
   generalize wc = w5 at *
   obtain ⟨d0, d1, d2, d3, d4, c0, c1, c2, c3, c4⟩ := blk5 P5.o.c
   go_upto_if 22 with fail
   clear d0 d1 d2 d3 d4 c0 c1 c2 c3 c4
   go_cut [] from 4 (fun wx => Hid (PG w wx g b s5 nm q k i t))
   case first =>
    by_cases hE : q = 8
    ·have hd : ((q : Int) != 8) = false := by simp [hE]
     have e2 : Hid (s4 = s5) := by show _ = _; rw [<- es5.o, if_pos hE]
     have ek : Hid (0 = k) := by show _ = _; rw [EK.o, if_pos hE]
     have ei : Hid (0 = i) := by show _ = _; rw [EI.o, if_pos hE]
     have et : Hid ([] = t) := by show _ = _; rw [ET.o, if_pos hE]
     clear hE
     go_wp2_with fail
     go_meet
     case rel => exact P5.o.to e2.o rfl ek.o ei.o et.o
    ·have hd : ((q : Int) != 8) = true := by simp; omega
     have e2 : Hid (Vals.getS s4 = s5) := by show _ = _; rw [<- es5.o, if_neg hE]
     have ek : Hid (Vals.getK s4 = k) := by show _ = _; rw [EK.o, if_neg hE]
     have ei : Hid (Vals.getI s4 = i) := by show _ = _; rw [EI.o, if_neg hE]
     have et : Hid (Vals.getT s4 = t) := by show _ = _; rw [ET.o, if_neg hE]
     rw [e2.o, ek.o, ei.o, et.o] at hv
     clear hE e2 ek ei et
     go_wp2_with fail
     refine (hv w5 P5.o.sc).mono ?_
     rintro e w6 ⟨rfl, h6, hT6⟩
     have P6 := Jh (P5.o.step h6 hT6)
     obtain ⟨d0, d1, d2, d3, d4, c0, c1, c2, c3, c4⟩ := blk5 P6.o.c
     have P7 := Jh (P6.o.val k i t)
     clear P6 h6 hT6
     go_wp2_with fail
     go_meet
     case rel => exact P7.o
   case rest =>
    clear P5 hv EK EI ET es5
    have P8 := hcut
    clear hcut
    generalize wc = w8 at *
    obtain ⟨d0, d1, d2, d3, d4, c0, c1, c2, c3, c4⟩ := blk5 P8.o.c
    go_upto_region 9 with fail
    go_cut [41] from 4 (fun s41 wx => s41 = .bool (Preds.wrong q k t) /\ w8 = wx)
    case first =>
     have hw : Hid (Preds.wrong (q : Int) k t = ((((q : Int) == 7) && (k != 2)) || decide ((32 : Int) < (t.length : Int)))) := by
      show _ = _
      unfold Preds.wrong
      congr 1
      ·congr 1
       simp only [bne, decide_not]; rfl
      ·simp; omega
     cases h7 : ((q : Int) == 7) <;> cases hk2 : (k != 2) <;> cases hl2 : decide ((32 : Int) < (t.length : Int)) <;> rw [h7, hk2, hl2] at hw <;> (go_wp2_with fail; go_meet; exact ⟨congrArg Value.bool hw.o.symm, rfl⟩)
    case rest =>
     clear d0 d1 d2 d3 d4 c0 c1 c2 c3 c4
     obtain ⟨rfl, rfl⟩ := hcut
     generalize Preds.wrong (q : Int) k t = z at *
     go_upto_if 41 with fail
     go_cut [] from 4 (fun wx => Hid (PG w wx g b s' nm q k i t))
     case first =>
      cases z
      ·have e2 : Hid (s5 = s') := by show _ = _; rw [E6.o]; rfl
       go_wp2_with fail
       go_meet
       case rel => exact P8.o.to e2.o rfl rfl rfl rfl
      ·have e2 : Hid (s5.fail 3 = s') := by show _ = _; rw [E6.o]; rfl
       go_wp2_with fail
       refine (refFail_at w8 g s5 P8.o.sc f5.o 3).mono ?_
       rintro e w9 ⟨rfl, h9, hT9⟩
       go_wp2_with fail
       go_meet
       case rel => exact (P8.o.step h9 hT9).to e2.o rfl rfl rfl rfl
     case rest =>
      clear P8 E6 f5
      have P := hcut
      clear hcut
      obtain ⟨A', n', cap', hG, hG'⟩ := P.o.sc
      obtain ⟨_, y1, _, _⟩ := blk2 hG
      obtain ⟨r0, r1, r2, r3, r4, k0, k1, k2, k3, k4⟩ := blk5 P.o.r
      obtain ⟨x0, x1, x2, x3, x4, _, _, _, _, _⟩ := blk5 P.o.c
      have hgw := P.o.g1
      clear hG hG'
      by_cases hz : s'.err = 0
      ·rw [hz] at y1
       obtain ⟨rfl, rfl, rfl, rfl, rfl⟩ := HG.o hz
       clear hz HG HBD
       go_wp2_with fail
       refine bodyPost_ret (v := .agg (pC nm.toArray q k i t.toArray)) (by simp [results, Tryz.results87, go_sem, r0, r1, r2, r3, r4]) rfl ?_
       exact ⟨rfl, P.o.sc.setP_ P.o.r (noByte5 _ _ _ _ _) (by omega) _ _ _ _ _, P.o.t.setP_ (Jn) _ _ _ _ _⟩
      ·have hd : ((s'.err) != 0) = true := by simpa using hz
       obtain ⟨rfl, rfl, rfl, rfl, rfl⟩ := HBD.o hz
       clear hz HG HBD
       go_wp2_with fail
       refine bodyPost_ret (v := .agg (pC #[] 0 0 0 #[])) (by simp [results, Tryz.results87, go_sem, r0, r1, r2, r3, r4]) rfl ?_
       exact ⟨rfl, P.o.sc.setP_ P.o.r (noByte5 _ _ _ _ _) (by omega) _ _ _ _ _, P.o.t.setP_ (Jn) _ _ _ _ _⟩
end
end Go.Proofs.YtckabmlilbkmbaaGreat
