/- Package pred: what Get reads. -/
import Derived.Test.YtcmjekchfgnbdaaPRight
import Derived.Test.YtcmjekchfgnbdaaVGet
namespace Go.Proofs.Ytcmjekchfgnbdaa
open Go.RowKit
/-- Cells among which no byte is. -/
def NoByte (cs : Array Value) : Prop := ∀ (off : Nat) (x : Int), cs[off]? ≠ some (.int .u8 x)
theorem noByte5 (a b : ByteArray) (x y z : Int) : NoByte #[.string a, .int .i64 x, .int .i64 y, .int .i64 z, .string b] := by
  intro off v
  rcases off with _ | _ | _ | _ | _ | off <;> simp
theorem noByte3 (b : ByteArray) (x y : Int) : NoByte #[.int .i64 x, .int .i64 y, .string b] := by
  intro off v
  rcases off with _ | _ | _ | off <;> simp
theorem NoByte.put {cs : Array Value} (h : NoByte cs) (j : Nat) {u : Value} (hu : ∀ x, u ≠ .int .u8 x) : NoByte (cs.setIfInBounds j u) := by
  intro off x e
  rw [Array.getElem?_setIfInBounds] at e
  split at e
  · split at e
    · injection e with e; exact hu x e
    · cases e
  · exact h off x e
theorem rd_apartN {w : World} {g : Nat} {t : TypeId} {cs : Array Value} {A : Option Addr} {bs : List UInt8} (hB : Blk w g t cs) (hn : NoByte cs) (hr : Rd w A bs) (off : Nat) : A ≠ some ⟨g, off, none⟩ ∨ bs = [] := by
  rcases hr with rfl | ⟨g', off', rfl, hg, hc⟩
  · exact .inr rfl
  · by_cases h0 : bs = []
    · exact .inr h0
    · refine .inl fun e => ?_
      cases e
      have h := hc 0 (List.length_pos_iff.2 h0)
      rw [hB.cell] at h
      exact hn _ _ h
theorem Sc.farN {w : World} {g b : Nat} {t t' : TypeId} {s : Wire.St} {cs : Array Value} (h : Sc w g t s) (hB : Blk w b t' cs) (hn : NoByte cs) (hne : g ≠ b) (j : Nat) (u : Value) : Sc (w.setCell ⟨b, j, none⟩ u) g t s := by
  obtain ⟨A, n, cap, hG, h1, h2, h3, hr⟩ := h
  exact ⟨A, n, cap, hG.far (p := ⟨b, j, none⟩) hne u, h1, h2, h3, ((Touch.refl b w).set_ j u).rd hr (rd_apartN hB hn hr)⟩
/-- Three cells of a predicate set: its value. -/
def setV (w : World) (b : Nat) (k i : Int) (t : ByteArray) : World := ((w.setCell ⟨b, 2, none⟩ (.int .i64 k)).setCell ⟨b, 3, none⟩ (.int .i64 i)).setCell ⟨b, 4, none⟩ (.string t)
/-- All five cells of a predicate set. -/
def setP (w : World) (b : Nat) (n : ByteArray) (o k i : Int) (t : ByteArray) : World := ((((w.setCell ⟨b, 0, none⟩ (.string n)).setCell ⟨b, 1, none⟩ (.int .i64 o)).setCell ⟨b, 2, none⟩ (.int .i64 k)).setCell ⟨b, 3, none⟩ (.int .i64 i)).setCell ⟨b, 4, none⟩ (.string t)
theorem Sc.setV_ {w : World} {g b : Nat} {t t' : TypeId} {s : Wire.St} {cs : Array Value} (h : Sc w g t s) (hB : Blk w b t' cs) (hn : NoByte cs) (hne : g ≠ b) (k i : Int) (z : ByteArray) : Sc (setV w b k i z) g t s :=
  ((h.farN hB hn hne 2 _).farN (hB.put 2 (.int .i64 k)) (hn.put 2 (by simp)) hne 3 _).farN ((hB.put 2 (.int .i64 k)).put 3 (.int .i64 i)) ((hn.put 2 (by simp)).put 3 (by simp)) hne 4 _
theorem Sc.setP_ {w : World} {g b : Nat} {t t' : TypeId} {s : Wire.St} {cs : Array Value} (h : Sc w g t s) (hB : Blk w b t' cs) (hn : NoByte cs) (hne : g ≠ b) (m : ByteArray) (o k i : Int) (z : ByteArray) : Sc (setP w b m o k i z) g t s :=
  Sc.setV_ ((h.farN hB hn hne 0 _).farN (hB.put 0 (.string m)) (hn.put 0 (by simp)) hne 1 _) ((hB.put 0 (.string m)).put 1 (.int .i64 o)) ((hn.put 0 (by simp)).put 1 (by simp)) hne k i z
theorem Touch.setV_ {g b : Nat} {a w : World} (h : Touch g a w) (hb : a.heap.size ≤ b) (k i : Int) (z : ByteArray) : Touch g a (setV w b k i z) := ((h.new_ hb).new_ hb).new_ hb
theorem Touch.setP_ {g b : Nat} {a w : World} (h : Touch g a w) (hb : a.heap.size ≤ b) (m : ByteArray) (o k i : Int) (z : ByteArray) : Touch g a (setP w b m o k i z) := Touch.setV_ ((h.new_ hb).new_ hb) hb k i z
theorem Blk.setV_ {w : World} {b : Nat} {t : TypeId} {v0 v1 v2 v3 v4 : Value} (hB : Blk w b t #[v0, v1, v2, v3, v4]) (k i : Int) (z : ByteArray) : Blk (setV w b k i z) b t #[v0, v1, .int .i64 k, .int .i64 i, .string z] := by
  have := ((hB.put 2 (.int .i64 k)).put 3 (.int .i64 i)).put 4 (.string z)
  unfold setV
  simpa using this
theorem Blk.farV {w : World} {b b' : Nat} {t : TypeId} {cs : Array Value} (hB : Blk w b t cs) (hne : b ≠ b') (k i : Int) (z : ByteArray) : Blk (setV w b' k i z) b t cs :=
  ((hB.far (p := ⟨b', 2, none⟩) hne _).far (p := ⟨b', 3, none⟩) hne _).far (p := ⟨b', 4, none⟩) hne _
set_option maxRecDepth 100000 in
set_option maxHeartbeats 1600000 in
theorem getName_at (w : World) (g : Nat) (s : Wire.St) (h : Sc w g 64 s) :
    Calls Try.prog 39 #[.pointer (some ⟨g, 0, none⟩)] w (Reads w g 64 (.string ⟨(s.textV 16).toArray⟩) (Preds.nameS s)) := by
  have ht := text_at w g s h 16 (by decide) (by decide)
  unfold Preds.nameS
  generalize s.textS 16 = s1 at *
  by_cases hv : s.textV 16 = []
  · rw [if_pos hv]
    rw [hv] at ht ⊢
    clear hv h
    go_enter Try.func39, Try.ntmps39
    go_wp2_with fail
    refine ht.mono ?_
    rintro e w1 ⟨rfl, h1, hT1⟩
    go_wp2_with fail
    refine (fail_at w1 g s1 h1 3).mono ?_
    rintro e w2 ⟨rfl, h2, hT2⟩
    go_wp2_with fail
    go_ret
    exact ⟨rfl, h2, hT1.trans hT2⟩
  · rw [if_neg hv]
    have hd : (s.textV 16 == []) = false := by simpa using hv
    generalize s.textV 16 = v at *
    clear hv h
    go_enter Try.func39, Try.ntmps39
    go_wp2_with fail
    refine ht.mono ?_
    rintro e w1 ⟨rfl, h1, hT1⟩
    go_wp2_with fail
    go_ret
    exact ⟨rfl, h1, hT1⟩
set_option maxRecDepth 100000 in
set_option maxHeartbeats 1600000 in
theorem getOp_at (w : World) (g : Nat) (s : Wire.St) (h : Sc w g 64 s) :
    Calls Try.prog 40 #[.pointer (some ⟨g, 0, none⟩)] w (Reads w g 64 (.int .i64 (s.uptoV 8 : Int)) (Preds.opS s)) := by
  have ht := upto_at w g s h 8 (by decide) (by decide)
  unfold Preds.opS
  generalize s.uptoS 8 = s1 at *
  generalize s.uptoV 8 = v at *
  by_cases hv : v = 0
  · rw [if_pos hv]
    subst hv
    clear h
    go_enter Try.func40, Try.ntmps40
    go_wp2_with fail
    refine ht.mono ?_
    rintro e w1 ⟨rfl, h1, hT1⟩
    go_wp2_with fail
    refine (fail_at w1 g s1 h1 3).mono ?_
    rintro e w2 ⟨rfl, h2, hT2⟩
    go_wp2_with fail
    go_ret
    exact ⟨rfl, h2, hT1.trans hT2⟩
  · rw [if_neg hv]
    have hd : ((v : Int) == 0) = false := by simp; omega
    clear hv h
    go_enter Try.func40, Try.ntmps40
    go_wp2_with fail
    refine ht.mono ?_
    rintro e w1 ⟨rfl, h1, hT1⟩
    go_wp2_with fail
    go_ret
    exact ⟨rfl, h1, hT1⟩
theorem getOp_is (w : World) (g : Nat) (s : Wire.St) (h : Sc w g 64 s) (v : Nat) (s' : Wire.St) (hv : s.uptoV 8 = v) (hs : Preds.opS s = s') :
    Calls Try.prog 40 #[.pointer (some ⟨g, 0, none⟩)] w (Reads w g 64 (.int .i64 (v : Int)) s') := by
  subst hv; subst hs; exact getOp_at w g s h
theorem vgetT_le (s : Wire.St) : (Vals.getT s).length ≤ 64 := by
  unfold Vals.getT
  split
  · split
    · exact Vals.textV_le _ 64
    · simp
  · simp
set_option maxRecDepth 100000 in
set_option maxHeartbeats 1600000 in
theorem side_pre (w : World) (g : Nat) (s : Wire.St) (h : Sc w g 64 s) (K I : Int) (Tx : List UInt8) (hK : Vals.getK s = K) (hI : Vals.getI s = I) (hTx : Vals.getT s = Tx) (_hl : Tx.length ≤ 64) (hk : K ≠ 2) :
    Calls Try.prog 41 #[.pointer (some ⟨g, 0, none⟩), .int .i64 7] w (Reads w g 64 (.agg #[.int .i64 K, .int .i64 I, .string ⟨Tx.toArray⟩]) ((Vals.getS s).fail 3)) := by
  have hv := fun w0 h0 => vget_at w0 g s h0 K I Tx _ hK hI hTx rfl
  clear hK hI hTx
  have e1 : (K != 2) = true := by simpa using hk
  clear hk
  generalize Vals.getS s = s1 at *
  have hg := h.lt
  obtain ⟨hB, hb0⟩ := box3 w 23 (.int .i64 0) (.int .i64 0) (.string ⟨#[]⟩)
  have h0 := h.below hb0
  go_enter Try.func41, Try.ntmps41
  go_wp2_with fail
  generalize w.alloc (.cells #[.int .i64 0, .int .i64 0, .string ⟨#[]⟩] 23) = w0 at *
  refine (hv w0 h0).mono ?_
  rintro e w1 ⟨rfl, h1, hT1⟩
  have hR1 := hT1.blk hB (by omega)
  have hT1w := (Touch.of_below (g := g) hb0).trans hT1
  have hgw1 : w.heap.size ≤ w1.heap.size := hT1w.size
  have hne : w.heap.size ≠ w1.heap.size := by have := hR1.lt; omega
  have hgv : g ≠ w1.heap.size := by omega
  obtain ⟨hC4, hb2⟩ := box3 w1 23 (.int .i64 K) (.int .i64 I) (.string ⟨Tx.toArray⟩)
  have h4 := h1.below hb2
  have hR4 := hR1.below hb2 hR1.lt
  have hT4w := hT1w.trans (Touch.of_below (g := g) hb2)
  clear hv h h0 hB hb0 hT1
  clear h1 hR1 hT1w hb2
  go_wp2_with fail
  generalize w1.heap.size = gc at *
  generalize w1.alloc (.cells #[.int .i64 K, .int .i64 I, .string ⟨Tx.toArray⟩] 23) = w4 at *
  refine (fail_at w4 g _ h4 3).mono ?_
  rintro e w5 ⟨rfl, h5, hT5⟩
  have hC5 := hT5.blk hC4 (by omega)
  have hR5 := hT5.blk hR4 (by omega)
  have hT5w := hT4w.trans hT5
  clear hC4 hR4 hT4w hT5 h4
  obtain ⟨x0, x1, x2, _, _, _⟩ := blk3 hC5
  obtain ⟨r0, r1, r2, k0, k1, k2⟩ := blk3 hR5
  go_wp2_with fail
  refine bodyPost_ret (v := .agg #[.int .i64 K, .int .i64 I, .string ⟨Tx.toArray⟩]) (by simp [results, Try.results41, go_sem, r0, r1, r2]) rfl ?_
  exact ⟨rfl, h5.set3 hR5 (by omega), hT5w.set3 (Nat.le_refl _) _ _ _⟩
set_option maxRecDepth 100000 in
set_option maxHeartbeats 1600000 in
theorem side_long7 (w : World) (g : Nat) (s : Wire.St) (h : Sc w g 64 s) (I : Int) (Tx : List UInt8) (hK : Vals.getK s = 2) (hI : Vals.getI s = I) (hTx : Vals.getT s = Tx) (_hl : Tx.length ≤ 64) (hk : 32 < Tx.length) :
    Calls Try.prog 41 #[.pointer (some ⟨g, 0, none⟩), .int .i64 7] w (Reads w g 64 (.agg #[.int .i64 2, .int .i64 I, .string ⟨Tx.toArray⟩]) ((Vals.getS s).fail 3)) := by
  have hv := fun w0 h0 => vget_at w0 g s h0 2 I Tx _ hK hI hTx rfl
  clear hK hI hTx
  have e2 : decide ((32 : Int) < (Tx.length : Int)) = true := by simp; omega
  clear hk
  generalize Vals.getS s = s1 at *
  have hg := h.lt
  obtain ⟨hB, hb0⟩ := box3 w 23 (.int .i64 0) (.int .i64 0) (.string ⟨#[]⟩)
  have h0 := h.below hb0
  go_enter Try.func41, Try.ntmps41
  go_wp2_with fail
  generalize w.alloc (.cells #[.int .i64 0, .int .i64 0, .string ⟨#[]⟩] 23) = w0 at *
  refine (hv w0 h0).mono ?_
  rintro e w1 ⟨rfl, h1, hT1⟩
  have hR1 := hT1.blk hB (by omega)
  have hT1w := (Touch.of_below (g := g) hb0).trans hT1
  have hgw1 : w.heap.size ≤ w1.heap.size := hT1w.size
  have hne : w.heap.size ≠ w1.heap.size := by have := hR1.lt; omega
  have hgv : g ≠ w1.heap.size := by omega
  obtain ⟨hC4, hb2⟩ := box3 w1 23 (.int .i64 2) (.int .i64 I) (.string ⟨Tx.toArray⟩)
  have h4 := h1.below hb2
  have hR4 := hR1.below hb2 hR1.lt
  have hT4w := hT1w.trans (Touch.of_below (g := g) hb2)
  clear hv h h0 hB hb0 hT1
  clear h1 hR1 hT1w hb2
  go_wp2_with fail
  generalize w1.heap.size = gc at *
  generalize w1.alloc (.cells #[.int .i64 2, .int .i64 I, .string ⟨Tx.toArray⟩] 23) = w4 at *
  refine (fail_at w4 g _ h4 3).mono ?_
  rintro e w5 ⟨rfl, h5, hT5⟩
  have hC5 := hT5.blk hC4 (by omega)
  have hR5 := hT5.blk hR4 (by omega)
  have hT5w := hT4w.trans hT5
  clear hC4 hR4 hT4w hT5 h4
  obtain ⟨x0, x1, x2, _, _, _⟩ := blk3 hC5
  obtain ⟨r0, r1, r2, k0, k1, k2⟩ := blk3 hR5
  go_wp2_with fail
  refine bodyPost_ret (v := .agg #[.int .i64 2, .int .i64 I, .string ⟨Tx.toArray⟩]) (by simp [results, Try.results41, go_sem, r0, r1, r2]) rfl ?_
  exact ⟨rfl, h5.set3 hR5 (by omega), hT5w.set3 (Nat.le_refl _) _ _ _⟩
set_option maxRecDepth 100000 in
set_option maxHeartbeats 1600000 in
theorem side_ok7 (w : World) (g : Nat) (s : Wire.St) (h : Sc w g 64 s) (I : Int) (Tx : List UInt8) (hK : Vals.getK s = 2) (hI : Vals.getI s = I) (hTx : Vals.getT s = Tx) (_hl : Tx.length ≤ 64) (hk : Tx.length ≤ 32) :
    Calls Try.prog 41 #[.pointer (some ⟨g, 0, none⟩), .int .i64 7] w (Reads w g 64 (.agg #[.int .i64 2, .int .i64 I, .string ⟨Tx.toArray⟩]) (Vals.getS s)) := by
  have hv := fun w0 h0 => vget_at w0 g s h0 2 I Tx _ hK hI hTx rfl
  clear hK hI hTx
  have e2 : decide ((32 : Int) < (Tx.length : Int)) = false := by simp; omega
  clear hk
  generalize Vals.getS s = s1 at *
  have hg := h.lt
  obtain ⟨hB, hb0⟩ := box3 w 23 (.int .i64 0) (.int .i64 0) (.string ⟨#[]⟩)
  have h0 := h.below hb0
  go_enter Try.func41, Try.ntmps41
  go_wp2_with fail
  generalize w.alloc (.cells #[.int .i64 0, .int .i64 0, .string ⟨#[]⟩] 23) = w0 at *
  refine (hv w0 h0).mono ?_
  rintro e w1 ⟨rfl, h1, hT1⟩
  have hR1 := hT1.blk hB (by omega)
  have hT1w := (Touch.of_below (g := g) hb0).trans hT1
  have hgw1 : w.heap.size ≤ w1.heap.size := hT1w.size
  have hne : w.heap.size ≠ w1.heap.size := by have := hR1.lt; omega
  have hgv : g ≠ w1.heap.size := by omega
  obtain ⟨hC4, hb2⟩ := box3 w1 23 (.int .i64 2) (.int .i64 I) (.string ⟨Tx.toArray⟩)
  have h4 := h1.below hb2
  have hR4 := hR1.below hb2 hR1.lt
  have hT4w := hT1w.trans (Touch.of_below (g := g) hb2)
  clear hv h h0 hB hb0 hT1
  obtain ⟨r0, r1, r2, k0, k1, k2⟩ := blk3 hR1
  have hlt : w.heap.size < w1.heap.size := hR1.lt
  clear hC4 h4 hR4 hT4w
  go_wp2_with fail
  have hR5 : Blk ((((w1.setCell ⟨w.heap.size, 0, none⟩ (.int .i64 2)).setCell ⟨w.heap.size, 1, none⟩ (.int .i64 I)).setCell ⟨w.heap.size, 2, none⟩ (.string ⟨Tx.toArray⟩)).alloc (.cells #[.int .i64 2, .int .i64 I, .string ⟨Tx.toArray⟩] 23)) w.heap.size 23 #[.int .i64 2, .int .i64 I, .string ⟨Tx.toArray⟩] := by
    have := ((hR1.put 0 (.int .i64 2)).put 1 (.int .i64 I)).put 2 (.string ⟨Tx.toArray⟩)
    exact (by simpa using this : Blk _ _ _ _).alloc _
  have h5 := (h1.set3 (x' := 2) (y' := I) (z' := ⟨Tx.toArray⟩) hR1 (by omega)).below ((Below.refl _ _).alloc (Nat.le_refl _) (.cells #[.int .i64 2, .int .i64 I, .string ⟨Tx.toArray⟩] 23))
  have hT5 := (hT1w.set3 (Nat.le_refl _) (.int .i64 2) (.int .i64 I) (.string ⟨Tx.toArray⟩)).trans (Touch.of_below (g := g) ((Below.refl _ _).alloc (Nat.le_refl _) (.cells #[.int .i64 2, .int .i64 I, .string ⟨Tx.toArray⟩] 23)))
  clear r0 r1 r2 k0 k1 k2
  generalize (((w1.setCell ⟨w.heap.size, 0, none⟩ (.int .i64 2)).setCell ⟨w.heap.size, 1, none⟩ (.int .i64 I)).setCell ⟨w.heap.size, 2, none⟩ (.string ⟨Tx.toArray⟩)).alloc (.cells #[.int .i64 2, .int .i64 I, .string ⟨Tx.toArray⟩] 23) = w6 at *
  obtain ⟨r0, r1, r2, _, _, _⟩ := blk3 hR5
  refine bodyPost_ret (v := .agg #[.int .i64 2, .int .i64 I, .string ⟨Tx.toArray⟩]) (by simp [results, Try.results41, go_sem, r0, r1, r2]) rfl ?_
  exact ⟨rfl, h5, hT5⟩
set_option maxRecDepth 100000 in
set_option maxHeartbeats 1600000 in
theorem side_long (w : World) (g : Nat) (s : Wire.St) (h : Sc w g 64 s) (o : Int) (K I : Int) (Tx : List UInt8) (hK : Vals.getK s = K) (hI : Vals.getI s = I) (hTx : Vals.getT s = Tx) (_hl : Tx.length ≤ 64) (ho : o ≠ 7) (hk : 32 < Tx.length) :
    Calls Try.prog 41 #[.pointer (some ⟨g, 0, none⟩), .int .i64 o] w (Reads w g 64 (.agg #[.int .i64 K, .int .i64 I, .string ⟨Tx.toArray⟩]) ((Vals.getS s).fail 3)) := by
  have hv := fun w0 h0 => vget_at w0 g s h0 K I Tx _ hK hI hTx rfl
  clear hK hI hTx
  have e7 : (o == 7) = false := by simpa using ho
  clear ho
  have e2 : decide ((32 : Int) < (Tx.length : Int)) = true := by simp; omega
  clear hk
  generalize Vals.getS s = s1 at *
  have hg := h.lt
  obtain ⟨hB, hb0⟩ := box3 w 23 (.int .i64 0) (.int .i64 0) (.string ⟨#[]⟩)
  have h0 := h.below hb0
  go_enter Try.func41, Try.ntmps41
  go_wp2_with fail
  generalize w.alloc (.cells #[.int .i64 0, .int .i64 0, .string ⟨#[]⟩] 23) = w0 at *
  refine (hv w0 h0).mono ?_
  rintro e w1 ⟨rfl, h1, hT1⟩
  have hR1 := hT1.blk hB (by omega)
  have hT1w := (Touch.of_below (g := g) hb0).trans hT1
  have hgw1 : w.heap.size ≤ w1.heap.size := hT1w.size
  have hne : w.heap.size ≠ w1.heap.size := by have := hR1.lt; omega
  have hgv : g ≠ w1.heap.size := by omega
  obtain ⟨hC4, hb2⟩ := box3 w1 23 (.int .i64 K) (.int .i64 I) (.string ⟨Tx.toArray⟩)
  have h4 := h1.below hb2
  have hR4 := hR1.below hb2 hR1.lt
  have hT4w := hT1w.trans (Touch.of_below (g := g) hb2)
  clear hv h h0 hB hb0 hT1
  clear h1 hR1 hT1w hb2
  go_wp2_with fail
  generalize w1.heap.size = gc at *
  generalize w1.alloc (.cells #[.int .i64 K, .int .i64 I, .string ⟨Tx.toArray⟩] 23) = w4 at *
  refine (fail_at w4 g _ h4 3).mono ?_
  rintro e w5 ⟨rfl, h5, hT5⟩
  have hC5 := hT5.blk hC4 (by omega)
  have hR5 := hT5.blk hR4 (by omega)
  have hT5w := hT4w.trans hT5
  clear hC4 hR4 hT4w hT5 h4
  obtain ⟨x0, x1, x2, _, _, _⟩ := blk3 hC5
  obtain ⟨r0, r1, r2, k0, k1, k2⟩ := blk3 hR5
  go_wp2_with fail
  refine bodyPost_ret (v := .agg #[.int .i64 K, .int .i64 I, .string ⟨Tx.toArray⟩]) (by simp [results, Try.results41, go_sem, r0, r1, r2]) rfl ?_
  exact ⟨rfl, h5.set3 hR5 (by omega), hT5w.set3 (Nat.le_refl _) _ _ _⟩
set_option maxRecDepth 100000 in
set_option maxHeartbeats 1600000 in
theorem side_ok (w : World) (g : Nat) (s : Wire.St) (h : Sc w g 64 s) (o : Int) (K I : Int) (Tx : List UInt8) (hK : Vals.getK s = K) (hI : Vals.getI s = I) (hTx : Vals.getT s = Tx) (_hl : Tx.length ≤ 64) (ho : o ≠ 7) (hk : Tx.length ≤ 32) :
    Calls Try.prog 41 #[.pointer (some ⟨g, 0, none⟩), .int .i64 o] w (Reads w g 64 (.agg #[.int .i64 K, .int .i64 I, .string ⟨Tx.toArray⟩]) (Vals.getS s)) := by
  have hv := fun w0 h0 => vget_at w0 g s h0 K I Tx _ hK hI hTx rfl
  clear hK hI hTx
  have e7 : (o == 7) = false := by simpa using ho
  clear ho
  have e2 : decide ((32 : Int) < (Tx.length : Int)) = false := by simp; omega
  clear hk
  generalize Vals.getS s = s1 at *
  have hg := h.lt
  obtain ⟨hB, hb0⟩ := box3 w 23 (.int .i64 0) (.int .i64 0) (.string ⟨#[]⟩)
  have h0 := h.below hb0
  go_enter Try.func41, Try.ntmps41
  go_wp2_with fail
  generalize w.alloc (.cells #[.int .i64 0, .int .i64 0, .string ⟨#[]⟩] 23) = w0 at *
  refine (hv w0 h0).mono ?_
  rintro e w1 ⟨rfl, h1, hT1⟩
  have hR1 := hT1.blk hB (by omega)
  have hT1w := (Touch.of_below (g := g) hb0).trans hT1
  have hgw1 : w.heap.size ≤ w1.heap.size := hT1w.size
  have hne : w.heap.size ≠ w1.heap.size := by have := hR1.lt; omega
  have hgv : g ≠ w1.heap.size := by omega
  obtain ⟨hC4, hb2⟩ := box3 w1 23 (.int .i64 K) (.int .i64 I) (.string ⟨Tx.toArray⟩)
  have h4 := h1.below hb2
  have hR4 := hR1.below hb2 hR1.lt
  have hT4w := hT1w.trans (Touch.of_below (g := g) hb2)
  clear hv h h0 hB hb0 hT1
  obtain ⟨r0, r1, r2, k0, k1, k2⟩ := blk3 hR1
  have hlt : w.heap.size < w1.heap.size := hR1.lt
  clear hC4 h4 hR4 hT4w
  go_wp2_with fail
  have hR5 : Blk ((((w1.setCell ⟨w.heap.size, 0, none⟩ (.int .i64 K)).setCell ⟨w.heap.size, 1, none⟩ (.int .i64 I)).setCell ⟨w.heap.size, 2, none⟩ (.string ⟨Tx.toArray⟩)).alloc (.cells #[.int .i64 K, .int .i64 I, .string ⟨Tx.toArray⟩] 23)) w.heap.size 23 #[.int .i64 K, .int .i64 I, .string ⟨Tx.toArray⟩] := by
    have := ((hR1.put 0 (.int .i64 K)).put 1 (.int .i64 I)).put 2 (.string ⟨Tx.toArray⟩)
    exact (by simpa using this : Blk _ _ _ _).alloc _
  have h5 := (h1.set3 (x' := K) (y' := I) (z' := ⟨Tx.toArray⟩) hR1 (by omega)).below ((Below.refl _ _).alloc (Nat.le_refl _) (.cells #[.int .i64 K, .int .i64 I, .string ⟨Tx.toArray⟩] 23))
  have hT5 := (hT1w.set3 (Nat.le_refl _) (.int .i64 K) (.int .i64 I) (.string ⟨Tx.toArray⟩)).trans (Touch.of_below (g := g) ((Below.refl _ _).alloc (Nat.le_refl _) (.cells #[.int .i64 K, .int .i64 I, .string ⟨Tx.toArray⟩] 23)))
  clear r0 r1 r2 k0 k1 k2
  generalize (((w1.setCell ⟨w.heap.size, 0, none⟩ (.int .i64 K)).setCell ⟨w.heap.size, 1, none⟩ (.int .i64 I)).setCell ⟨w.heap.size, 2, none⟩ (.string ⟨Tx.toArray⟩)).alloc (.cells #[.int .i64 K, .int .i64 I, .string ⟨Tx.toArray⟩] 23) = w6 at *
  obtain ⟨r0, r1, r2, _, _, _⟩ := blk3 hR5
  refine bodyPost_ret (v := .agg #[.int .i64 K, .int .i64 I, .string ⟨Tx.toArray⟩]) (by simp [results, Try.results41, go_sem, r0, r1, r2]) rfl ?_
  exact ⟨rfl, h5, hT5⟩
theorem getSide_at (w : World) (g : Nat) (s : Wire.St) (h : Sc w g 64 s) (o : Int) (K I : Int) (Tx : List UInt8) (s' : Wire.St) (hK : Vals.getK s = K) (hI : Vals.getI s = I) (hTx : Vals.getT s = Tx) (hs : Preds.sideS s o = s') :
    Calls Try.prog 41 #[.pointer (some ⟨g, 0, none⟩), .int .i64 o] w (Reads w g 64 (.agg #[.int .i64 K, .int .i64 I, .string ⟨Tx.toArray⟩]) s') := by
  subst hs
  have hl : Tx.length ≤ 64 := by rw [← hTx]; exact vgetT_le s
  unfold Preds.sideS Preds.wrong
  rw [hK, hTx]
  by_cases h7 : o = 7
  · subst h7
    by_cases hk : K = 2
    · subst hk
      by_cases h2 : 32 < Tx.length
      · rw [if_pos (by simp [h2])]
        exact side_long7 w g s h I Tx hK hI hTx hl h2
      · rw [if_neg (by simp; omega)]
        exact side_ok7 w g s h I Tx hK hI hTx hl (by omega)
    · rw [if_pos (by simp [hk])]
      exact side_pre w g s h K I Tx hK hI hTx hl hk
  · by_cases h2 : 32 < Tx.length
    · rw [if_pos (by simp [h2])]
      exact side_long w g s h o K I Tx hK hI hTx hl h7 h2
    · rw [if_neg (by simp [h7]; omega)]
      exact side_ok w g s h o K I Tx hK hI hTx hl h7 (by omega)
set_option maxRecDepth 100000 in
set_option maxHeartbeats 1600000 in
theorem pget_ex (w : World) (g : Nat) (s : Wire.St) (h : Sc w g 64 s) (N : List UInt8) (O K I : Int) (Tx : List UInt8) (s' : Wire.St) (hN : Preds.getN s = N) (hO : Preds.getO s = O) (hK : Preds.getK s = K) (hI : Preds.getI s = I) (hTx : Preds.getT s = Tx) (hs' : Preds.getS s = s') (hv : Preds.rawO s = 8) :
    Calls Try.prog 19 #[.pointer (some ⟨g, 0, none⟩)] w (Reads w g 64 (.agg #[.string ⟨N.toArray⟩, .int .i64 O, .int .i64 K, .int .i64 I, .string ⟨Tx.toArray⟩]) s') := by
  have HV := Lib.hid hv
  have HV8 : Hid ((Preds.nameS s).uptoV 8 = 8) := hv
  have HN := Lib.hid hN
  have HO := Lib.hid hO
  have HK := Lib.hid hK
  have HI := Lib.hid hI
  have HT := Lib.hid hTx
  have eS : Hid (Preds.getS s = Preds.behind s) := by show _ = _; unfold Preds.getS; rw [hv]; rfl
  have HG : Hid ((Preds.behind s).err = 0 → s.textV 16 = N ∧ 8 = O ∧ 0 = K ∧ 0 = I ∧ [] = Tx) := fun hz => by
    have hz' : (Preds.getS s).err = 0 := by rw [eS.out]; exact hz
    obtain ⟨g1, g2, g3, g4, g5⟩ := Preds.get_good s hz'
    refine ⟨g1.symm.trans hN, ?_, ?_, ?_, ?_⟩
    · rw [← hO, g2, hv]; rfl
    · rw [← hK, g3]; unfold Preds.rawK; rw [hv]; rfl
    · rw [← hI, g4]; unfold Preds.rawI; rw [hv]; rfl
    · rw [← hTx, g5]; unfold Preds.rawT; rw [hv]; rfl
  have HBD : Hid ((Preds.behind s).err ≠ 0 → [] = N ∧ 0 = O ∧ 0 = K ∧ 0 = I ∧ [] = Tx) := fun hz => by
    have hz' : (Preds.getS s).err ≠ 0 := by rw [eS.out]; exact hz
    obtain ⟨g1, g2, g3, g4, g5⟩ := Preds.get_bad s hz'
    exact ⟨g1.symm.trans hN, g2.symm.trans hO, g3.symm.trans hK, g4.symm.trans hI, g5.symm.trans hTx⟩
  obtain rfl := eS.out.symm.trans hs'
  clear hv hN hO hK hI hTx hs' HN HO HK HI HT eS
  have hg := h.lt
  obtain ⟨hB, hb0⟩ := box5 w 25 (.string ⟨#[]⟩) (.int .i64 0) (.int .i64 0) (.int .i64 0) (.string ⟨#[]⟩)
  have h0 := h.below hb0
  go_enter Try.func19, Try.ntmps19
  go_wp2_with fail
  generalize w.alloc (.cells #[.string ⟨#[]⟩, .int .i64 0, .int .i64 0, .int .i64 0, .string ⟨#[]⟩] 25) = w0 at *
  refine (getName_at w0 g s h0).mono ?_
  rintro e w1 ⟨rfl, h1, hT1⟩
  have hR1 := hT1.blk hB (by omega)
  have hT1w := (Touch.of_below (g := g) hb0).trans hT1
  clear h h0 hB hb0 hT1
  generalize s.textV 16 = nm at *
  go_wp2_with fail
  obtain ⟨hC2, hb2⟩ := box5 w1 25 (.string ⟨nm.toArray⟩) (.int .i64 0) (.int .i64 0) (.int .i64 0) (.string ⟨#[]⟩)
  have hgw1 : w.heap.size ≤ w1.heap.size := hT1w.size
  have hne : w.heap.size ≠ w1.heap.size := by have := hR1.lt; omega
  have hgv : g ≠ w1.heap.size := by omega
  have h2 := h1.below hb2
  have hR2 := hR1.below hb2 hR1.lt
  have hT2w := hT1w.trans (Touch.of_below (g := g) hb2)
  clear h1 hR1 hT1w hb2
  generalize w1.heap.size = gc at *
  generalize w1.alloc (.cells #[.string ⟨nm.toArray⟩, .int .i64 0, .int .i64 0, .int .i64 0, .string ⟨#[]⟩] 25) = w2 at *
  refine (getOp_is w2 g _ h2 8 (Preds.behind s) HV8.out rfl).mono ?_
  rintro e w3 ⟨rfl, h3, hT3⟩
  have hC3 := hT3.blk hC2 (by omega)
  have hR3 := hT3.blk hR2 (by omega)
  have hT3w := hT2w.trans hT3
  clear hC2 hR2 hT2w hT3 h2
  obtain ⟨d0, d1, d2, d3, d4, e0, e1, e2, e3, e4⟩ := blk5 hC3
  have hC4 := hC3.put 1 (.int .i64 8)
  simp only [List.setIfInBounds_toArray, List.set_cons_zero, List.set_cons_succ] at hC4
  have h4 := h3.farN hC3 (noByte5 _ _ _ _ _) hgv 1 (.int .i64 8)
  have hT4w := hT3w.new_ (j := 1) (v := .int .i64 8) hgw1
  have hR4 := hR3.far (p := ⟨gc, 1, none⟩) hne (.int .i64 8)
  clear hC3 hT3w hR3 h3
  go_wp2_with fail
  clear d0 d1 d2 d3 d4 e0 e1 e2 e3 e4
  generalize w3.setCell ⟨gc, 1, none⟩ (.int .i64 8) = w4 at *
  by_cases hz : (Preds.behind s).err = 0
  · have HZ : Hid ((Preds.behind s).err = 0) := hz
    obtain ⟨rfl, rfl, rfl, rfl, rfl⟩ := HG.out hz
    clear hz HG HBD
    refine (err_at w4 g _ h4 _ HZ.out).mono ?_
    rintro e w9 ⟨rfl, rfl⟩
    obtain ⟨c0, c1, c2, c3, c4, f0, f1, f2, f3, f4⟩ := blk5 hC4
    obtain ⟨r0, r1, r2, r3, r4, k0, k1, k2, k3, k4⟩ := blk5 hR4
    clear hC4
    go_wp2_with fail
    refine bodyPost_ret (v := .agg #[.string ⟨nm.toArray⟩, .int .i64 8, .int .i64 0, .int .i64 0, .string ⟨#[]⟩]) (by simp [results, Try.results19, go_sem, r0, r1, r2, r3, r4]) rfl ?_
    exact ⟨rfl, h4.setP_ hR4 (noByte5 _ _ _ _ _) (by omega) _ _ _ _ _, hT4w.setP_ (Nat.le_refl _) _ _ _ _ _⟩
  · have HZ : Hid ((Preds.behind s).err ≠ 0) := hz
    have hd : (((Preds.behind s).err) != 0) = true := by simpa using hz
    obtain ⟨rfl, rfl, rfl, rfl, rfl⟩ := HBD.out hz
    clear hz HG HBD
    refine (err_at w4 g _ h4 _ rfl).mono ?_
    rintro e w9 ⟨rfl, rfl⟩
    obtain ⟨r0, r1, r2, r3, r4, k0, k1, k2, k3, k4⟩ := blk5 hR4
    clear hC4
    go_wp2_with fail
    refine bodyPost_ret (v := .agg #[.string ⟨#[]⟩, .int .i64 0, .int .i64 0, .int .i64 0, .string ⟨#[]⟩]) (by simp [results, Try.results19, go_sem, r0, r1, r2, r3, r4]) rfl ?_
    exact ⟨rfl, h4.setP_ hR4 (noByte5 _ _ _ _ _) (by omega) _ _ _ _ _, hT4w.setP_ (Nat.le_refl _) _ _ _ _ _⟩
set_option maxRecDepth 100000 in
set_option maxHeartbeats 1600000 in
theorem pget_so (w : World) (g : Nat) (s : Wire.St) (h : Sc w g 64 s) (N : List UInt8) (O K I : Int) (Tx : List UInt8) (s' : Wire.St) (hN : Preds.getN s = N) (hO : Preds.getO s = O) (hK : Preds.getK s = K) (hI : Preds.getI s = I) (hTx : Preds.getT s = Tx) (hs' : Preds.getS s = s') (q : Nat) (hv : Preds.rawO s = q) (hq : q ≤ 7) (K0 I0 : Int) (T0 : List UInt8) (hK0 : Vals.getK (Preds.behind s) = K0) (hI0 : Vals.getI (Preds.behind s) = I0) (hT0 : Vals.getT (Preds.behind s) = T0) :
    Calls Try.prog 19 #[.pointer (some ⟨g, 0, none⟩)] w (Reads w g 64 (.agg #[.string ⟨N.toArray⟩, .int .i64 O, .int .i64 K, .int .i64 I, .string ⟨Tx.toArray⟩]) s') := by
  have HV := Lib.hid hv
  have HV8 : Hid ((Preds.nameS s).uptoV 8 = q) := hv
  have HN := Lib.hid hN
  have HO := Lib.hid hO
  have HK := Lib.hid hK
  have HI := Lib.hid hI
  have HT := Lib.hid hTx
  have eS : Hid (Preds.getS s = Preds.sideS (Preds.behind s) (q : Int)) := by show _ = _; unfold Preds.getS; rw [hv]; rw [if_neg (by omega)]
  have HG : Hid ((Preds.sideS (Preds.behind s) (q : Int)).err = 0 → s.textV 16 = N ∧ (q : Int) = O ∧ K0 = K ∧ I0 = I ∧ T0 = Tx) := fun hz => by
    have hz' : (Preds.getS s).err = 0 := by rw [eS.out]; exact hz
    obtain ⟨g1, g2, g3, g4, g5⟩ := Preds.get_good s hz'
    refine ⟨g1.symm.trans hN, ?_, ?_, ?_, ?_⟩
    · rw [← hO, g2, hv]
    · rw [← hK, g3]; unfold Preds.rawK; rw [hv]; rw [if_neg (by omega)]; exact hK0.symm
    · rw [← hI, g4]; unfold Preds.rawI; rw [hv]; rw [if_neg (by omega)]; exact hI0.symm
    · rw [← hTx, g5]; unfold Preds.rawT; rw [hv]; rw [if_neg (by omega)]; exact hT0.symm
  have HBD : Hid ((Preds.sideS (Preds.behind s) (q : Int)).err ≠ 0 → [] = N ∧ 0 = O ∧ 0 = K ∧ 0 = I ∧ [] = Tx) := fun hz => by
    have hz' : (Preds.getS s).err ≠ 0 := by rw [eS.out]; exact hz
    obtain ⟨g1, g2, g3, g4, g5⟩ := Preds.get_bad s hz'
    exact ⟨g1.symm.trans hN, g2.symm.trans hO, g3.symm.trans hK, g4.symm.trans hI, g5.symm.trans hTx⟩
  obtain rfl := eS.out.symm.trans hs'
  have HSD := fun w0 h0 => getSide_at w0 g (Preds.behind s) h0 (q : Int) K0 I0 T0 _ hK0 hI0 hT0 rfl
  have e8 : ((q : Int) != 8) = true := by simp; omega
  have hqi : (q : Int) ≤ 7 := by omega
  clear hK0 hI0 hT0 hq
  clear hv hN hO hK hI hTx hs' HN HO HK HI HT eS
  have hg := h.lt
  obtain ⟨hB, hb0⟩ := box5 w 25 (.string ⟨#[]⟩) (.int .i64 0) (.int .i64 0) (.int .i64 0) (.string ⟨#[]⟩)
  have h0 := h.below hb0
  go_enter Try.func19, Try.ntmps19
  go_wp2_with fail
  generalize w.alloc (.cells #[.string ⟨#[]⟩, .int .i64 0, .int .i64 0, .int .i64 0, .string ⟨#[]⟩] 25) = w0 at *
  refine (getName_at w0 g s h0).mono ?_
  rintro e w1 ⟨rfl, h1, hT1⟩
  have hR1 := hT1.blk hB (by omega)
  have hT1w := (Touch.of_below (g := g) hb0).trans hT1
  clear h h0 hB hb0 hT1
  generalize s.textV 16 = nm at *
  go_wp2_with fail
  obtain ⟨hC2, hb2⟩ := box5 w1 25 (.string ⟨nm.toArray⟩) (.int .i64 0) (.int .i64 0) (.int .i64 0) (.string ⟨#[]⟩)
  have hgw1 : w.heap.size ≤ w1.heap.size := hT1w.size
  have hne : w.heap.size ≠ w1.heap.size := by have := hR1.lt; omega
  have hgv : g ≠ w1.heap.size := by omega
  have h2 := h1.below hb2
  have hR2 := hR1.below hb2 hR1.lt
  have hT2w := hT1w.trans (Touch.of_below (g := g) hb2)
  clear h1 hR1 hT1w hb2
  generalize w1.heap.size = gc at *
  generalize w1.alloc (.cells #[.string ⟨nm.toArray⟩, .int .i64 0, .int .i64 0, .int .i64 0, .string ⟨#[]⟩] 25) = w2 at *
  refine (getOp_is w2 g _ h2 q (Preds.behind s) HV8.out rfl).mono ?_
  rintro e w3 ⟨rfl, h3, hT3⟩
  have hC3 := hT3.blk hC2 (by omega)
  have hR3 := hT3.blk hR2 (by omega)
  have hT3w := hT2w.trans hT3
  clear hC2 hR2 hT2w hT3 h2
  obtain ⟨d0, d1, d2, d3, d4, e0, e1, e2, e3, e4⟩ := blk5 hC3
  have hC4 := hC3.put 1 (.int .i64 (q : Int))
  simp only [List.setIfInBounds_toArray, List.set_cons_zero, List.set_cons_succ] at hC4
  have h4 := h3.farN hC3 (noByte5 _ _ _ _ _) hgv 1 (.int .i64 (q : Int))
  have hT4w := hT3w.new_ (j := 1) (v := .int .i64 (q : Int)) hgw1
  have hR4 := hR3.far (p := ⟨gc, 1, none⟩) hne (.int .i64 (q : Int))
  clear hC3 hT3w hR3 h3
  go_wp2_with fail
  clear d0 d1 d2 d3 d4 e0 e1 e2 e3 e4
  generalize w3.setCell ⟨gc, 1, none⟩ (.int .i64 (q : Int)) = w4 at *
  refine (HSD w4 h4).mono ?_
  rintro e w5 ⟨rfl, h5, hT5⟩
  have hC5 := hT5.blk hC4 (by omega)
  have hR5 := hT5.blk hR4 (by omega)
  have hT5w := hT4w.trans hT5
  clear hC4 hR4 hT4w hT5 h4 HSD
  obtain ⟨d0, d1, d2, d3, d4, e0, e1, e2, e3, e4⟩ := blk5 hC5
  have hC6 := hC5.setV_ K0 I0 ⟨T0.toArray⟩
  have h6 := h5.setV_ hC5 (noByte5 _ _ _ _ _) hgv K0 I0 ⟨T0.toArray⟩
  have hT6w := hT5w.setV_ hgw1 K0 I0 ⟨T0.toArray⟩
  have hR6 := hR5.farV hne K0 I0 ⟨T0.toArray⟩
  clear hC5 hT5w hR5 h5
  go_wp2_with fail
  clear d0 d1 d2 d3 d4 e0 e1 e2 e3 e4
  unfold setV at hC6 h6 hT6w hR6
  generalize ((w5.setCell ⟨gc, 2, none⟩ (.int .i64 K0)).setCell ⟨gc, 3, none⟩ (.int .i64 I0)).setCell ⟨gc, 4, none⟩ (.string ⟨T0.toArray⟩) = w6 at *
  by_cases hz : (Preds.sideS (Preds.behind s) (q : Int)).err = 0
  · have HZ : Hid ((Preds.sideS (Preds.behind s) (q : Int)).err = 0) := hz
    obtain ⟨rfl, rfl, rfl, rfl, rfl⟩ := HG.out hz
    clear hz HG HBD
    refine (err_at w6 g _ h6 _ HZ.out).mono ?_
    rintro e w9 ⟨rfl, rfl⟩
    obtain ⟨c0, c1, c2, c3, c4, f0, f1, f2, f3, f4⟩ := blk5 hC6
    obtain ⟨r0, r1, r2, r3, r4, k0, k1, k2, k3, k4⟩ := blk5 hR6
    clear hC6
    go_wp2_with fail
    refine bodyPost_ret (v := .agg #[.string ⟨nm.toArray⟩, .int .i64 (q : Int), .int .i64 K0, .int .i64 I0, .string ⟨T0.toArray⟩]) (by simp [results, Try.results19, go_sem, r0, r1, r2, r3, r4]) rfl ?_
    exact ⟨rfl, h6.setP_ hR6 (noByte5 _ _ _ _ _) (by omega) _ _ _ _ _, hT6w.setP_ (Nat.le_refl _) _ _ _ _ _⟩
  · have HZ : Hid ((Preds.sideS (Preds.behind s) (q : Int)).err ≠ 0) := hz
    have hd : (((Preds.sideS (Preds.behind s) (q : Int)).err) != 0) = true := by simpa using hz
    obtain ⟨rfl, rfl, rfl, rfl, rfl⟩ := HBD.out hz
    clear hz HG HBD
    refine (err_at w6 g _ h6 _ rfl).mono ?_
    rintro e w9 ⟨rfl, rfl⟩
    obtain ⟨r0, r1, r2, r3, r4, k0, k1, k2, k3, k4⟩ := blk5 hR6
    clear hC6
    go_wp2_with fail
    refine bodyPost_ret (v := .agg #[.string ⟨#[]⟩, .int .i64 0, .int .i64 0, .int .i64 0, .string ⟨#[]⟩]) (by simp [results, Try.results19, go_sem, r0, r1, r2, r3, r4]) rfl ?_
    exact ⟨rfl, h6.setP_ hR6 (noByte5 _ _ _ _ _) (by omega) _ _ _ _ _, hT6w.setP_ (Nat.le_refl _) _ _ _ _ _⟩
theorem pget_at (w : World) (g : Nat) (s : Wire.St) (h : Sc w g 64 s) (N : List UInt8) (O K I : Int) (Tx : List UInt8) (s' : Wire.St) (hN : Preds.getN s = N) (hO : Preds.getO s = O) (hK : Preds.getK s = K) (hI : Preds.getI s = I) (hTx : Preds.getT s = Tx) (hs' : Preds.getS s = s') :
    Calls Try.prog 19 #[.pointer (some ⟨g, 0, none⟩)] w (Reads w g 64 (.agg #[.string ⟨N.toArray⟩, .int .i64 O, .int .i64 K, .int .i64 I, .string ⟨Tx.toArray⟩]) s') := by
  by_cases h8 : Preds.rawO s = 8
  · exact pget_ex w g s h N O K I Tx s' hN hO hK hI hTx hs' h8
  · exact pget_so w g s h N O K I Tx s' hN hO hK hI hTx hs' _ rfl (by have := Preds.rawO_le s; omega) _ _ _ rfl rfl rfl
end Go.Proofs.Ytcmjekchfgnbdaa
