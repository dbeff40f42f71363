/- The small case that each statement of layer 2 begins with. -/
import Derived.Test.YtgadpdjhnlblaaaWRead
import Derived.Lib.SlBytesConst
namespace Go.Proofs.Ytgadpdjhnlblaaa
open Go.RowKit
/-- One scan's reading leaves another one as it was. -/
theorem Touch.sc {g g' : Nat} {T T' : TypeId} {w w' : World} {s s' : Wire.St} (h : Touch g w w') (hg : Sc w g T s) (hg' : Sc w g' T' s') (hne : g' ≠ g) : Sc w' g' T' s' := by
  obtain ⟨A, n, cap, hB, _⟩ := hg
  obtain ⟨A', n', cap', hB', h1, h2, h3, hr⟩ := hg'
  exact ⟨A', n', cap', h.blk hB' hne, h1, h2, h3, h.rd hr (rd_apart hB hr)⟩
theorem Sc.drew {w : World} {g : Nat} {t : TypeId} {s : Wire.St} (h : Sc w g t s) : Sc w.drew g t s := h
theorem Sc.drewN {w : World} {g : Nat} {t : TypeId} {s : Wire.St} (h : Sc w g t s) (n : Nat) : Sc (w.drewN n) g t s := h
theorem put300 : Wire.put 300 = [172, 2] := by rw [Wire.put_hi 300 (by decide), Wire.put_lo _ (by decide)]; rfl
theorem put_m1 : Wire.put (Wire.zig (-1)) = [1] := by rw [show Wire.zig (-1) = 1 from rfl, Wire.put_lo _ (by decide)]; rfl
theorem text_ab : Wire.text [97, 98] = [2, 97, 98] := by
  unfold Wire.text
  rw [show ([97, 98] : List UInt8).length = 2 from rfl, Wire.put_lo _ (by decide)]; rfl
/-- What the small case keeps: its bytes in block b, four scans. -/
structure Four (w0 w : World) (b gs gt gu gv : Nat) (bs : List UInt8) (s t u v : Wire.St) : Prop where
  bel : Below w0.heap.size w0 w
  le : w0.heap.size ≤ gs ∧ w0.heap.size ≤ gt ∧ w0.heap.size ≤ gu ∧ w0.heap.size ≤ gv
  ne : b ≠ gs ∧ b ≠ gt ∧ b ≠ gu ∧ b ≠ gv ∧ gs ≠ gt ∧ gs ≠ gu ∧ gs ≠ gv ∧ gt ≠ gu ∧ gt ≠ gv ∧ gu ≠ gv
  blk : Blk w b 5 (bs.map Bv).toArray
  s : Sc w gs 54 s
  t : Sc w gt 54 t
  u : Sc w gu 54 u
  v : Sc w gv 54 v
section
variable {w0 w w' : World} {b gs gt gu gv : Nat} {bs : List UInt8} {s t u v x : Wire.St}
theorem Four.onS (h : Four w0 w b gs gt gu gv bs s t u v) (hx : Sc w' gs 54 x) (k : Touch gs w w') : Four w0 w' b gs gt gu gv bs x t u v := by
  obtain ⟨n1, n2, n3, n4, n5, n6, n7, n8, n9, n10⟩ := h.ne
  exact ⟨k.below h.bel h.bel.size h.le.1, h.le, h.ne, k.blk h.blk n1, hx, k.sc h.s h.t n5.symm, k.sc h.s h.u n6.symm, k.sc h.s h.v n7.symm⟩
theorem Four.onT (h : Four w0 w b gs gt gu gv bs s t u v) (hx : Sc w' gt 54 x) (k : Touch gt w w') : Four w0 w' b gs gt gu gv bs s x u v := by
  obtain ⟨n1, n2, n3, n4, n5, n6, n7, n8, n9, n10⟩ := h.ne
  exact ⟨k.below h.bel h.bel.size h.le.2.1, h.le, h.ne, k.blk h.blk n2, k.sc h.t h.s n5, hx, k.sc h.t h.u n8.symm, k.sc h.t h.v n9.symm⟩
theorem Four.onU (h : Four w0 w b gs gt gu gv bs s t u v) (hx : Sc w' gu 54 x) (k : Touch gu w w') : Four w0 w' b gs gt gu gv bs s t x v := by
  obtain ⟨n1, n2, n3, n4, n5, n6, n7, n8, n9, n10⟩ := h.ne
  exact ⟨k.below h.bel h.bel.size h.le.2.2.1, h.le, h.ne, k.blk h.blk n3, k.sc h.u h.s n6, k.sc h.u h.t n8, hx, k.sc h.u h.v n10.symm⟩
theorem Four.onV (h : Four w0 w b gs gt gu gv bs s t u v) (hx : Sc w' gv 54 x) (k : Touch gv w w') : Four w0 w' b gs gt gu gv bs s t u x := by
  obtain ⟨n1, n2, n3, n4, n5, n6, n7, n8, n9, n10⟩ := h.ne
  exact ⟨k.below h.bel h.bel.size h.le.2.2.2, h.le, h.ne, k.blk h.blk n4, k.sc h.v h.s n7, k.sc h.v h.t n9, k.sc h.v h.u n10, hx⟩
end
set_option maxRecDepth 100000 in
set_option maxHeartbeats 1600000 in
theorem small_any (w : World) :
    Calls Try.prog 8 #[] w fun e w' => e = .returned (.bool true) ∧ Below w.heap.size w w' := by
  go_enter Try.func8, Try.ntmps8
  go_wp2_with fail
  have hr0 := rd_const w 5 (0, 0) #[.int .u8 9] [9] rfl
  refine (put_at _ [9] 1 1 300 3 rfl (by rw [put300]; rfl) (by decide) (by decide) _ hr0).mono ?_
  rintro e w1 ⟨g1, rfl, hg1, hb1, hB1⟩
  rw [put300] at hB1
  replace hb1 := below_alloc hb1
  clear hr0 hg1
  have hr1 := hB1.rd
  go_wp2_with fail
  refine (putInt_at _ _ 3 3 4 (-1) rfl (by rw [put_m1]; rfl) (by decide) (by decide) (by decide) _ hr1).mono ?_
  rintro e w2 ⟨g2, rfl, hg2, hb2, hB2⟩
  rw [put_m1] at hB2
  replace hb2 := below_next hb1 (Nat.le_refl _) hb2
  clear hr1 hg2 hB1 hb1
  have hr2 := hB2.rd
  go_wp2_with fail
  refine (putText_at _ _ [97, 98] 4 4 2 7 rfl rfl (by rw [text_ab]; rfl) (by decide) _ hr2).mono ?_
  rintro e w3 ⟨g3, rfl, hg3, hb3, hB3⟩
  rw [text_ab] at hB3
  replace hb3 := below_next hb2 (Nat.le_refl _) hb3
  clear hr2 hg3 hB2 hb2
  have hrb : Rd w3 (some ⟨g3, 1, none⟩) [172, 2, 1, 2, 97, 98] := by
    refine .inr ⟨g3, 1, rfl, hB3.lt, fun i hi => ?_⟩
    rw [hB3.cell]
    simp at hi
    rcases i with _ | _ | _ | _ | _ | _ | i <;> first | rfl | omega
  go_wp2_with fail
  refine (on_at _ [172, 2, 1, 2, 97, 98] 6 6 rfl (by decide) _ hrb).mono ?_
  rintro e w4 ⟨gs, rfl, hgs, hb4, hs4⟩
  have hB4 := hB3.below hb4 hB3.lt
  have hlt3 := hB3.lt
  have hlts := hs4.lt
  replace hb4 := below_next hb3 (Nat.le_refl _) hb4
  have hz3 := hb3.size
  clear hrb hB3 hb3
  go_wp2_with fail
  refine (on_at _ [128, 0] 2 2 rfl (by decide) _ (rd_const w4 5 (0, 0) #[.int .u8 128, .int .u8 0] [128, 0] rfl)).mono ?_
  rintro e w5 ⟨gt, rfl, hgt, hb5, ht5⟩
  replace hb5 := below_alloc hb5
  have hB5 := hB4.below hb5 hB4.lt
  have hs5 := hs4.below hb5
  replace hgt : w4.heap.size ≤ gt := Nat.le_trans (by simp) hgt
  have hltt := ht5.lt
  replace hb5 := below_next hb4 (Nat.le_refl _) hb5
  clear hB4 hb4 hs4
  go_wp2_with fail
  refine (on_at _ [200] 1 1 rfl (by decide) _ (rd_const w5 5 (0, 0) #[.int .u8 200] [200] rfl)).mono ?_
  rintro e w6 ⟨gu, rfl, hgu, hb6, hu6⟩
  replace hb6 := below_alloc hb6
  have hB6 := hB5.below hb6 hB5.lt
  have hs6 := hs5.below hb6
  have ht6 := ht5.below hb6
  replace hgu : w5.heap.size ≤ gu := Nat.le_trans (by simp) hgu
  have hltu := hu6.lt
  replace hb6 := below_next hb5 (Nat.le_refl _) hb6
  clear hB5 hb5 hs5 ht5
  go_wp2_with fail
  refine (on_at _ [5, 97] 2 2 rfl (by decide) _ (rd_const w6 5 (0, 0) #[.int .u8 5, .int .u8 97] [5, 97] rfl)).mono ?_
  rintro e w7 ⟨gv, rfl, hgv, hb7, hv7⟩
  replace hb7 := below_alloc hb7
  have hB7 := hB6.below hb7 hB6.lt
  have hs7 := hs6.below hb7
  have ht7 := ht6.below hb7
  have hu7 := hu6.below hb7
  replace hgv : w6.heap.size ≤ gv := Nat.le_trans (by simp) hgv
  replace hb7 := below_next hb6 (Nat.le_refl _) hb7
  clear hB6 hb6 hs6 ht6 hu6
  have hlt7 := hv7.lt
  have hF : Four w w7 g3 gs gt gu gv [9, 172, 2, 1, 2, 97, 98] ⟨[172, 2, 1, 2, 97, 98], 0⟩ ⟨[128, 0], 0⟩ ⟨[200], 0⟩ ⟨[5, 97], 0⟩ :=
    ⟨hb7, by omega, by omega, hB7, hs7, ht7, hu7, hv7⟩
  clear hgs hgt hgu hgv hlt3 hlts hltt hltu hlt7 hb7 hB7 hs7 ht7 hu7 hv7 hz3
  go_wp2_with fail
  refine (num_is _ gs _ ⟨[1, 2, 97, 98], 0⟩ 300 hF.s rfl rfl).mono ?_
  rintro e w8 ⟨rfl, hs, hT⟩
  replace hF := hF.onS hs hT
  clear hs hT
  go_wp2_with fail
  refine (int_is _ gs _ ⟨[2, 97, 98], 0⟩ (-1) hF.s rfl rfl).mono ?_
  rintro e w9 ⟨rfl, hs, hT⟩
  replace hF := hF.onS hs hT
  clear hs hT
  go_wp2_with fail
  refine (text_is _ gs _ ⟨[], 0⟩ [97, 98] hF.s 2 (by decide) (by decide) rfl rfl).mono ?_
  rintro e w10 ⟨rfl, hs, hT⟩
  replace hF := hF.onS hs hT
  clear hs hT
  go_wp2_with fail
  refine (num_is _ gt _ ⟨[], 3⟩ 0 hF.t rfl rfl).mono ?_
  rintro e w11 ⟨rfl, hs, hT⟩
  replace hF := hF.onT hs hT
  clear hs hT
  go_wp2_with fail
  refine (int_is _ gu _ ⟨[], 2⟩ 0 hF.u rfl rfl).mono ?_
  rintro e w12 ⟨rfl, hs, hT⟩
  replace hF := hF.onU hs hT
  clear hs hT
  go_wp2_with fail
  refine (text_is _ gv _ ⟨[], 2⟩ [] hF.v 9 (by decide) (by decide) rfl rfl).mono ?_
  rintro e w13 ⟨rfl, hs, hT⟩
  replace hF := hF.onV hs hT
  clear hs hT
  have hst := run_str (P := Try.prog) w13 _ _ 7 7 hF.blk.rd rfl 22 5 9 Try.underlying22 Try.underlying5 Try.underlying9
  go_wp2_with fail
  refine (end_at _ gs _ hF.s 0 rfl).mono ?_
  rintro e w14 ⟨rfl, rfl⟩
  go_wp2_with fail
  refine (err_at _ gt _ hF.t 3 rfl).mono ?_
  rintro e w14 ⟨rfl, rfl⟩
  go_wp2_with fail
  refine (err_at _ gu _ hF.u 2 rfl).mono ?_
  rintro e w14 ⟨rfl, rfl⟩
  go_wp2_with fail
  refine (err_at _ gv _ hF.v 2 rfl).mono ?_
  rintro e w14 ⟨rfl, rfl⟩
  go_wp2_with fail
  refine (left_at _ gv _ hF.v 0 rfl).mono ?_
  rintro e w14 ⟨rfl, rfl⟩
  go_wp2_with fail
  go_ret
  exact ⟨rfl, hF.bel⟩
end Go.Proofs.Ytgadpdjhnlblaaa
