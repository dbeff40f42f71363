/-
  What was laid is read as it was, and what is read was laid just so, and is right: for every predicate and all bytes the call of the law answers true, and all arguments read behind it as they read before. No condition.
-/
import Derived.Test.YtcmjekchfgnbdaaPSml
import Derived.Test.YtcmjekchfgnbdaaPArgs
namespace Go.Proofs.Ytcmjekchfgnbdaa
open Go.RowKit Go.ChangeShapes Go.WideShapes Go.ChangeAt
set_option maxRecDepth 100000 in
set_option maxHeartbeats 800000 in
theorem back_out (w : World) (nm : List UInt8) (o k i : Int) (t : List UInt8) (A : Option Addr) (bs : List UInt8) (len cap : Nat) (hn : bs.length = len) (hm : len ≤ 140737488355328) (rd : Rd w A bs) (hi1 : -9223372036854775808 ≤ i) (hi2 : i ≤ 9223372036854775807) (hnm9 : nm.length ≤ 9223372036854775807) (ht9 : t.length ≤ 9223372036854775807)
    (x : List UInt8) (L : Nat) (hx : Preds.lay nm o k i t = x) (hL : x.length = L) (hL2 : L ≤ 300) (hl : 300 < len ∨ 300 < nm.length ∨ 300 < t.length) :
    Calls Try.prog 5 #[.agg #[.string ⟨nm.toArray⟩, .int .i64 o, .int .i64 k, .int .i64 i, .string ⟨t.toArray⟩], .slice A len cap] w fun e w' => e = .returned (.bool true) ∧ Below w.heap.size w w' := by
  have HN := Lib.hid hn
  have HX := Lib.hid hx
  have HL := Lib.hid hL
  clear hn hx hL
  go_enter Try.func5, Try.ntmps5
  go_wp2_with fail
  obtain ⟨hB, hb0⟩ := box5 w 25 (.string ⟨nm.toArray⟩) (.int .i64 o) (.int .i64 k) (.int .i64 i) (.string ⟨t.toArray⟩)
  generalize w.alloc (.cells #[.string ⟨nm.toArray⟩, .int .i64 o, .int .i64 k, .int .i64 i, .string ⟨t.toArray⟩] 25) = w0 at *
  refine (small_any w0).mono ?_
  rintro e w1 ⟨rfl, hb1⟩
  replace hB := hB.below hb1 hB.lt
  replace hb0 := below_next hb0 (Nat.le_refl _) hb1
  clear hb1
  obtain ⟨c0, c1, c2, c3, c4, _, _, _, _, _⟩ := blk5 hB
  go_wp2_with fail
  refine (pput_at none [] 0 0 L nm o k i t rfl (by rw [HX.out, HL.out]; omega) (by omega) hi1 hi2 (by omega) (by omega) w1 (Or.inl rfl)).mono ?_
  rintro e w2 ⟨D, c, rfl, hc, hb2, hr2⟩
  rw [List.nil_append, HX.out] at hr2
  clear c0 c1 c2 c3 c4
  replace hB := hB.below hb2 hB.lt
  replace hb0 := below_next hb0 (Nat.le_refl _) hb2
  clear hb2
  go_wp2_with fail
  refine (on_at D x L c HL.out (by omega) w2 hr2).mono ?_
  rintro e w3 ⟨gs, rfl, hgs, hb3, hs⟩
  have hVs : w.heap.size < gs := by have := hB.lt; omega
  replace hB := hB.below hb3 hB.lt
  replace hb0 := below_next hb0 (Nat.le_refl _) hb3
  clear hb3 hgs hr2
  go_wp2_with fail
  refine (on_at A bs len cap HN.out (by omega) w3 (rd.below hb0)).mono ?_
  rintro e w4 ⟨gt, rfl, hgt, hb4, ht⟩
  have hst : gs < gt := by have := hs.lt; omega
  replace hB := hB.below hb4 hB.lt
  replace hs := hs.below hb4
  replace hb0 := below_next hb0 (Nat.le_refl _) hb4
  clear hb4 hgt
  obtain ⟨c0, c1, c2, c3, c4, _, _, _, _, _⟩ := blk5 hB
  by_cases a1 : 300 < len
  · have q1 : decide ((300 : Int) < (len : Int)) = true := by simp; omega
    clear hl a1
    go_wp2_with fail
    go_ret
    exact ⟨rfl, hb0⟩
  · have q1 : decide ((300 : Int) < (len : Int)) = false := by simp; omega
    by_cases a0 : 300 < nm.length
    · have q0 : decide ((300 : Int) < (nm.length : Int)) = true := by simp; omega
      clear hl a1 a0
      go_wp2_with fail
      go_ret
      exact ⟨rfl, hb0⟩
    · have q0 : decide ((300 : Int) < (nm.length : Int)) = false := by simp; omega
      have q2 : decide ((300 : Int) < (t.length : Int)) = true := by simp; omega
      clear hl a1 a0
      go_wp2_with fail
      go_ret
      exact ⟨rfl, hb0⟩
set_option maxRecDepth 100000 in
set_option maxHeartbeats 3200000 in
theorem back_fb (w : World) (nm : List UInt8) (o k i : Int) (t : List UInt8) (A : Option Addr) (bs : List UInt8) (len cap : Nat) (hn : bs.length = len) (hm : len ≤ 300) (rd : Rd w A bs) (hi1 : -9223372036854775808 ≤ i) (hi2 : i ≤ 9223372036854775807) (hnm9 : nm.length ≤ 300) (ht9 : t.length ≤ 300)
    (x : List UInt8) (L : Nat) (hx : Preds.lay nm o k i t = x) (hL : x.length = L) (hL2 : L ≤ 300) (hr : Preds.right nm o k i t = false) (hx0 : L = 0)
    (N : List UInt8) (O K I : Int) (Tx : List UInt8) (s' : Wire.St) (hNm : Preds.getN ⟨bs, 0⟩ = N) (hO : Preds.getO ⟨bs, 0⟩ = O) (hK : Preds.getK ⟨bs, 0⟩ = K) (hI : Preds.getI ⟨bs, 0⟩ = I) (hTx : Preds.getT ⟨bs, 0⟩ = Tx) (hs' : Preds.getS ⟨bs, 0⟩ = s') (z : Int) (hz : s'.err = z) (hz0 : z ≠ 0) (hN0 : N = []) (hO0 : O = 0) (hK0 : K = 0) (hI0 : I = 0) (hT0 : Tx = []) :
    Calls Try.prog 5 #[.agg #[.string ⟨nm.toArray⟩, .int .i64 o, .int .i64 k, .int .i64 i, .string ⟨t.toArray⟩], .slice A len cap] w fun e w' => e = .returned (.bool true) ∧ Below w.heap.size w w' := by
  have HR := Lib.hid hr
  have HX0 := Lib.hid hx0
  have HNm := Lib.hid hNm
  have HO := Lib.hid hO
  have HK := Lib.hid hK
  have HI := Lib.hid hI
  have HT := Lib.hid hTx
  have HS := Lib.hid hs'
  have HZ := Lib.hid hz
  clear hr hx0 hNm hO hK hI hTx hs' hz
  have HN0 := Lib.hid hN0
  have HO0 := Lib.hid hO0
  have HK0 := Lib.hid hK0
  have HI0 := Lib.hid hI0
  have HT0 := Lib.hid hT0
  clear hN0 hO0 hK0 hI0 hT0
  have HN := Lib.hid hn
  have HX := Lib.hid hx
  have HL := Lib.hid hL
  clear hn hx hL
  go_enter Try.func5, Try.ntmps5
  go_wp2_with fail
  obtain ⟨hB, hb0⟩ := box5 w 25 (.string ⟨nm.toArray⟩) (.int .i64 o) (.int .i64 k) (.int .i64 i) (.string ⟨t.toArray⟩)
  generalize w.alloc (.cells #[.string ⟨nm.toArray⟩, .int .i64 o, .int .i64 k, .int .i64 i, .string ⟨t.toArray⟩] 25) = w0 at *
  refine (small_any w0).mono ?_
  rintro e w1 ⟨rfl, hb1⟩
  replace hB := hB.below hb1 hB.lt
  replace hb0 := below_next hb0 (Nat.le_refl _) hb1
  clear hb1
  obtain ⟨c0, c1, c2, c3, c4, _, _, _, _, _⟩ := blk5 hB
  go_wp2_with fail
  refine (pput_at none [] 0 0 L nm o k i t rfl (by rw [HX.out, HL.out]; omega) (by omega) hi1 hi2 (by omega) (by omega) w1 (Or.inl rfl)).mono ?_
  rintro e w2 ⟨D, c, rfl, hc, hb2, hr2⟩
  rw [List.nil_append, HX.out] at hr2
  clear c0 c1 c2 c3 c4
  replace hB := hB.below hb2 hB.lt
  replace hb0 := below_next hb0 (Nat.le_refl _) hb2
  clear hb2
  go_wp2_with fail
  refine (on_at D x L c HL.out (by omega) w2 hr2).mono ?_
  rintro e w3 ⟨gs, rfl, hgs, hb3, hs⟩
  have hVs : w.heap.size < gs := by have := hB.lt; omega
  replace hB := hB.below hb3 hB.lt
  replace hb0 := below_next hb0 (Nat.le_refl _) hb3
  clear hb3 hgs hr2
  go_wp2_with fail
  refine (on_at A bs len cap HN.out (by omega) w3 (rd.below hb0)).mono ?_
  rintro e w4 ⟨gt, rfl, hgt, hb4, ht⟩
  have hst : gs < gt := by have := hs.lt; omega
  replace hB := hB.below hb4 hB.lt
  replace hs := hs.below hb4
  replace hb0 := below_next hb0 (Nat.le_refl _) hb4
  clear hb4 hgt
  obtain ⟨c0, c1, c2, c3, c4, _, _, _, _, _⟩ := blk5 hB
  have q1 : decide ((300 : Int) < (len : Int)) = false := by simp; omega
  have q0 : decide ((300 : Int) < (nm.length : Int)) = false := by simp; omega
  have q2 : decide ((300 : Int) < (t.length : Int)) = false := by simp; omega
  go_wp2_with fail
  clear q1 q0 q2 c0 c1 c2 c3 c4
  replace hb0 := hb0.drew
  replace hB : Blk w4.drew w.heap.size 25 #[.string ⟨nm.toArray⟩, .int .i64 o, .int .i64 k, .int .i64 i, .string ⟨t.toArray⟩] := hB
  replace hs := hs.drew
  replace ht := ht.drew
  have hS0 : Below w.heap.size w w4.drew ∧ w4.drew.cell? ⟨w.heap.size, 0, none⟩ = some (.string ⟨nm.toArray⟩) ∧ w4.drew.cell? ⟨w.heap.size, 1, none⟩ = some (.int .i64 o) ∧ w4.drew.cell? ⟨w.heap.size, 2, none⟩ = some (.int .i64 k) ∧ w4.drew.cell? ⟨w.heap.size, 3, none⟩ = some (.int .i64 i) ∧ w4.drew.cell? ⟨w.heap.size, 4, none⟩ = some (.string ⟨t.toArray⟩) := ⟨hb0, hB.cell 0, hB.cell 1, hB.cell 2, hB.cell 3, hB.cell 4⟩
  refine wp_region_held_drew (S := fun w' => Below w.heap.size w w' ∧ w'.cell? ⟨w.heap.size, 0, none⟩ = some (.string ⟨nm.toArray⟩) ∧ w'.cell? ⟨w.heap.size, 1, none⟩ = some (.int .i64 o) ∧ w'.cell? ⟨w.heap.size, 2, none⟩ = some (.int .i64 k) ∧ w'.cell? ⟨w.heap.size, 3, none⟩ = some (.int .i64 i) ∧ w'.cell? ⟨w.heap.size, 4, none⟩ = some (.string ⟨t.toArray⟩)) (by kernel_rfl) hS0 (fun _ => ?_)
  refine wpAnyH_yes (i := 0) (d := 51) (v := ?_) rfl rfl (by kernel_rfl) (by kernel_rfl) (by kernel_rfl) (fun _ _ _ h => h) (by rfl) ?_ hS0 ?_
  rotate_left
  · intro w' hSw; go_simp <;> with_reducible rfl
  simp only [Act.put, List.setIfInBounds_toArray, List.set_cons_zero, List.set_cons_succ]
  refine wpAnyH_yes (i := 2) (d := 53) (v := ?_) rfl rfl (by kernel_rfl) (by kernel_rfl) (by kernel_rfl) (fun _ _ _ h => h) (by rfl) ?_ hS0 ?_
  rotate_left
  · intro w' hSw; go_simp <;> with_reducible rfl
  simp only [Act.put, List.setIfInBounds_toArray, List.set_cons_zero, List.set_cons_succ]
  refine wpAnyH_yes (i := 3) (d := 54) (v := ?_) rfl rfl (by kernel_rfl) (by kernel_rfl) (by kernel_rfl) (fun _ _ _ h => h) (by rfl) ?_ hS0 ?_
  rotate_left
  · intro w' hSw; go_simp <;> with_reducible rfl
  simp only [Act.put, List.setIfInBounds_toArray, List.set_cons_zero, List.set_cons_succ]
  refine wpAnyH_yes (i := 4) (d := 55) (v := .bool false) rfl rfl (by kernel_rfl) (by kernel_rfl) (by kernel_rfl) (fun _ _ _ h => h) (by rfl) ?_ hS0 ?_
  · intro w' hSw
    go_simp
    have h0 := HX0.out
    first | omega | (simp; omega)
  simp only [Act.put, List.setIfInBounds_toArray, List.set_cons_zero, List.set_cons_succ]
  refine wpAnyH_one (i := 1) (by kernel_rfl) rfl (by rfl) (fun Kx hK1 => ?_)
  go_simp
  with_reducible refine (pright_is nm o k i t _ (by omega) (by omega) false HR.out).mono ?_
  rintro e w5 ⟨rfl, hb5⟩
  replace hB := hB.below hb5 hB.lt
  replace hs := hs.below hb5
  replace ht := ht.below hb5
  replace hb0 := below_next hb0 (Nat.le_refl _) hb5
  have hS1 : Below w.heap.size w w5 ∧ w5.cell? ⟨w.heap.size, 0, none⟩ = some (.string ⟨nm.toArray⟩) ∧ w5.cell? ⟨w.heap.size, 1, none⟩ = some (.int .i64 o) ∧ w5.cell? ⟨w.heap.size, 2, none⟩ = some (.int .i64 k) ∧ w5.cell? ⟨w.heap.size, 3, none⟩ = some (.int .i64 i) ∧ w5.cell? ⟨w.heap.size, 4, none⟩ = some (.string ⟨t.toArray⟩) := ⟨hb0, hB.cell 0, hB.cell 1, hB.cell 2, hB.cell 3, hB.cell 4⟩
  go_wp2_with fail
  refine hK1.out _ _ hS1 ?_
  refine wpAnyH_yes (i := 5) (d := 56) (v := ?_) rfl rfl (by kernel_rfl) (by kernel_rfl) (by kernel_rfl) (fun _ _ _ h => h) (by rfl) ?_ hS1 ?_
  rotate_left
  · intro w' hSw; go_simp <;> with_reducible rfl
  simp only [Act.put, List.setIfInBounds_toArray, List.set_cons_zero, List.set_cons_succ]
  refine wpAnyH_yes (i := 6) (d := 57) (v := ?_) rfl rfl (by kernel_rfl) (by kernel_rfl) (by kernel_rfl) (fun _ _ _ h => h) (by rfl) ?_ hS1 ?_
  rotate_left
  · intro w' hSw; go_simp <;> with_reducible rfl
  simp only [Act.put, List.setIfInBounds_toArray, List.set_cons_zero, List.set_cons_succ]
  refine wpAnyH_yes (i := 7) (d := 58) (v := ?_) rfl rfl (by kernel_rfl) (by kernel_rfl) (by kernel_rfl) (fun _ _ _ h => h) (by rfl) ?_ hS1 ?_
  rotate_left
  · intro w' hSw; go_simp <;> with_reducible rfl
  simp only [Act.put, List.setIfInBounds_toArray, List.set_cons_zero, List.set_cons_succ]
  refine wpAnyH_one (i := 8) (by kernel_rfl) rfl (by rfl) (fun Kx hK2 => ?_)
  go_simp
  with_reducible refine (pright_is nm o k i t _ (by omega) (by omega) false HR.out).mono ?_
  rintro e w6 ⟨rfl, hb6⟩
  replace hB := hB.below hb6 hB.lt
  replace hs := hs.below hb6
  replace ht := ht.below hb6
  replace hb0 := below_next hb0 (Nat.le_refl _) hb6
  have hS2 : Below w.heap.size w w6 ∧ w6.cell? ⟨w.heap.size, 0, none⟩ = some (.string ⟨nm.toArray⟩) ∧ w6.cell? ⟨w.heap.size, 1, none⟩ = some (.int .i64 o) ∧ w6.cell? ⟨w.heap.size, 2, none⟩ = some (.int .i64 k) ∧ w6.cell? ⟨w.heap.size, 3, none⟩ = some (.int .i64 i) ∧ w6.cell? ⟨w.heap.size, 4, none⟩ = some (.string ⟨t.toArray⟩) := ⟨hb0, hB.cell 0, hB.cell 1, hB.cell 2, hB.cell 3, hB.cell 4⟩
  go_wp2_with fail
  refine hK2.out _ _ hS2 ?_
  refine wpAnyH_yes (i := 9) (d := 60) (v := ?_) rfl rfl (by kernel_rfl) (by kernel_rfl) (by kernel_rfl) (fun _ _ _ h => h) (by rfl) ?_ hS2 ?_
  rotate_left
  · intro w' hSw; go_simp <;> with_reducible rfl
  simp only [Act.put, List.setIfInBounds_toArray, List.set_cons_zero, List.set_cons_succ]
  refine wpAnyH_no (i := 10) (d := 61) rfl rfl (by kernel_rfl) (by kernel_rfl) (by kernel_rfl) (fun _ _ _ h => h) (by rfl) hS2 ?_
  simp only [Act.put, List.setIfInBounds_toArray, List.set_cons_zero, List.set_cons_succ]
  refine wpAnyH_no (i := 11) (d := 62) rfl rfl (by kernel_rfl) (by kernel_rfl) (by kernel_rfl) (fun _ _ _ h => h) (by rfl) hS2 ?_
  simp only [Act.put, List.setIfInBounds_toArray, List.set_cons_zero, List.set_cons_succ]
  refine wpAnyH_no (i := 12) (d := 63) rfl rfl (by kernel_rfl) (by kernel_rfl) (by kernel_rfl) (fun _ _ _ h => h) (by rfl) hS2 ?_
  simp only [Act.put, List.setIfInBounds_toArray, List.set_cons_zero, List.set_cons_succ]
  refine wpAnyH_no (i := 13) (d := 64) rfl rfl (by kernel_rfl) (by kernel_rfl) (by kernel_rfl) (fun _ _ _ h => h) (by rfl) hS2 ?_
  simp only [Act.put, List.setIfInBounds_toArray, List.set_cons_zero, List.set_cons_succ]
  refine wpAnyH_no (i := 14) (d := 65) rfl rfl (by kernel_rfl) (by kernel_rfl) (by kernel_rfl) (fun _ _ _ h => h) (by rfl) hS2 ?_
  simp only [Act.put, List.setIfInBounds_toArray, List.set_cons_zero, List.set_cons_succ]
  refine wpAnyH_no (i := 15) (d := 66) rfl rfl (by kernel_rfl) (by kernel_rfl) (by kernel_rfl) (fun _ _ _ h => h) (by rfl) hS2 ?_
  simp only [Act.put, List.setIfInBounds_toArray, List.set_cons_zero, List.set_cons_succ]
  refine wpAnyH_no (i := 16) (d := 67) rfl rfl (by kernel_rfl) (by kernel_rfl) (by kernel_rfl) (fun _ _ _ h => h) (by rfl) hS2 ?_
  simp only [Act.put, List.setIfInBounds_toArray, List.set_cons_zero, List.set_cons_succ]
  refine wpAnyH_no (i := 17) (d := 68) rfl rfl (by kernel_rfl) (by kernel_rfl) (by kernel_rfl) (fun _ _ _ h => h) (by rfl) hS2 ?_
  simp only [Act.put, List.setIfInBounds_toArray, List.set_cons_zero, List.set_cons_succ]
  refine wpAnyH_no (i := 18) (d := 69) rfl rfl (by kernel_rfl) (by kernel_rfl) (by kernel_rfl) (fun _ _ _ h => h) (by rfl) hS2 ?_
  simp only [Act.put, List.setIfInBounds_toArray, List.set_cons_zero, List.set_cons_succ]
  refine wpAnyH_yes (i := 19) (d := 70) (v := ?_) rfl rfl (by kernel_rfl) (by kernel_rfl) (by kernel_rfl) (fun _ _ _ h => h) (by rfl) ?_ hS2 ?_
  rotate_left
  · intro w' hSw; go_simp <;> with_reducible rfl
  simp only [Act.put, List.setIfInBounds_toArray, List.set_cons_zero, List.set_cons_succ]
  refine wpAnyH_yes (i := 20) (d := 71) (v := ?_) rfl rfl (by kernel_rfl) (by kernel_rfl) (by kernel_rfl) (fun _ _ _ h => h) (by rfl) ?_ hS2 ?_
  rotate_left
  · intro w' hSw; go_simp <;> with_reducible rfl
  simp only [Act.put, List.setIfInBounds_toArray, List.set_cons_zero, List.set_cons_succ]
  refine wpAnyH_done (by kernel_rfl) ?_ _
  clear hS0 hS1 hS2 hb5 hb6 hB
  generalize w6 = w8 at *
  go_wp2_with fail
  refine (pget_at w8 gt _ ht N O K I Tx s' HNm.out HO.out HK.out HI.out HT.out HS.out).mono ?_
  rintro e w9 ⟨rfl, ht9', hT9⟩
  replace hb0 := hT9.below hb0 hb0.size (by omega)
  clear ht hT9
  go_wp2_with fail
  obtain ⟨hY, hb10⟩ := box5 w9 25 (.string ⟨N.toArray⟩) (.int .i64 O) (.int .i64 K) (.int .i64 I) (.string ⟨Tx.toArray⟩)
  replace ht9' := ht9'.below hb10
  replace hb0 := below_next hb0 (Nat.le_refl _) hb10
  generalize w9.heap.size = gy at *
  generalize w9.alloc (.cells #[.string ⟨N.toArray⟩, .int .i64 O, .int .i64 K, .int .i64 I, .string ⟨Tx.toArray⟩] 25) = w10 at *
  clear hb10
  have hd : (z != 0) = true := by simpa using hz0
  refine (err_at w10 gt s' ht9' z HZ.out).mono ?_
  rintro e w11 ⟨rfl, rfl⟩
  clear HNm HO HK HI HT
  obtain rfl := HN0.out
  obtain rfl := HO0.out
  obtain rfl := HK0.out
  obtain rfl := HI0.out
  obtain rfl := HT0.out
  obtain ⟨d0, d1, d2, d3, d4, _, _, _, _, _⟩ := blk5 hY
  go_wp2_with fail
  go_ret
  exact ⟨rfl, hb0⟩
set_option maxRecDepth 100000 in
set_option maxHeartbeats 3200000 in
theorem back_fg (w : World) (nm : List UInt8) (o k i : Int) (t : List UInt8) (A : Option Addr) (bs : List UInt8) (len cap : Nat) (hn : bs.length = len) (hm : len ≤ 300) (rd : Rd w A bs) (hi1 : -9223372036854775808 ≤ i) (hi2 : i ≤ 9223372036854775807) (hnm9 : nm.length ≤ 300) (ht9 : t.length ≤ 300)
    (x : List UInt8) (L : Nat) (hx : Preds.lay nm o k i t = x) (hL : x.length = L) (hL2 : L ≤ 300) (hr : Preds.right nm o k i t = false) (hx0 : L = 0)
    (N : List UInt8) (O K I : Int) (Tx : List UInt8) (s' : Wire.St) (hNm : Preds.getN ⟨bs, 0⟩ = N) (hO : Preds.getO ⟨bs, 0⟩ = O) (hK : Preds.getK ⟨bs, 0⟩ = K) (hI : Preds.getI ⟨bs, 0⟩ = I) (hTx : Preds.getT ⟨bs, 0⟩ = Tx) (hs' : Preds.getS ⟨bs, 0⟩ = s') (hz : s'.err = 0) (j m : Nat) (y : List UInt8) (hjl : j ≤ len) (hyb : bs.take j = y) (hj : y.length = j) (hm9 : s'.rest.length = m) (hjm : len = j + m) (hrr : Preds.right N O K I Tx = true) (hyl : Preds.lay N O K I Tx = y) (hbd : (-9223372036854775808 ≤ I ∧ I ≤ 9223372036854775807) ∧ N.length ≤ 16 ∧ Tx.length ≤ 32) (hcap : len ≤ cap) :
    Calls Try.prog 5 #[.agg #[.string ⟨nm.toArray⟩, .int .i64 o, .int .i64 k, .int .i64 i, .string ⟨t.toArray⟩], .slice A len cap] w fun e w' => e = .returned (.bool true) ∧ Below w.heap.size w w' := by
  have HR := Lib.hid hr
  have HX0 := Lib.hid hx0
  have HNm := Lib.hid hNm
  have HO := Lib.hid hO
  have HK := Lib.hid hK
  have HI := Lib.hid hI
  have HT := Lib.hid hTx
  have HS := Lib.hid hs'
  have HZ := Lib.hid hz
  clear hr hx0 hNm hO hK hI hTx hs' hz
  have HYB := Lib.hid hyb
  have HJ := Lib.hid hj
  have HM := Lib.hid hm9
  have HRR := Lib.hid hrr
  have HY := Lib.hid hyl
  have HB : Hid (-9223372036854775808 ≤ I ∧ I ≤ 9223372036854775807) := hbd.1
  have hN16 := hbd.2.1
  have hTx32 := hbd.2.2
  have HJM := Lib.hid hjm
  clear hyb hj hm9 hrr hyl hbd hjm
  have HN := Lib.hid hn
  have HX := Lib.hid hx
  have HL := Lib.hid hL
  clear hn hx hL
  go_enter Try.func5, Try.ntmps5
  go_wp2_with fail
  obtain ⟨hB, hb0⟩ := box5 w 25 (.string ⟨nm.toArray⟩) (.int .i64 o) (.int .i64 k) (.int .i64 i) (.string ⟨t.toArray⟩)
  generalize w.alloc (.cells #[.string ⟨nm.toArray⟩, .int .i64 o, .int .i64 k, .int .i64 i, .string ⟨t.toArray⟩] 25) = w0 at *
  refine (small_any w0).mono ?_
  rintro e w1 ⟨rfl, hb1⟩
  replace hB := hB.below hb1 hB.lt
  replace hb0 := below_next hb0 (Nat.le_refl _) hb1
  clear hb1
  obtain ⟨c0, c1, c2, c3, c4, _, _, _, _, _⟩ := blk5 hB
  go_wp2_with fail
  refine (pput_at none [] 0 0 L nm o k i t rfl (by rw [HX.out, HL.out]; omega) (by omega) hi1 hi2 (by omega) (by omega) w1 (Or.inl rfl)).mono ?_
  rintro e w2 ⟨D, c, rfl, hc, hb2, hr2⟩
  rw [List.nil_append, HX.out] at hr2
  clear c0 c1 c2 c3 c4
  replace hB := hB.below hb2 hB.lt
  replace hb0 := below_next hb0 (Nat.le_refl _) hb2
  clear hb2
  go_wp2_with fail
  refine (on_at D x L c HL.out (by omega) w2 hr2).mono ?_
  rintro e w3 ⟨gs, rfl, hgs, hb3, hs⟩
  have hVs : w.heap.size < gs := by have := hB.lt; omega
  replace hB := hB.below hb3 hB.lt
  replace hb0 := below_next hb0 (Nat.le_refl _) hb3
  clear hb3 hgs hr2
  go_wp2_with fail
  refine (on_at A bs len cap HN.out (by omega) w3 (rd.below hb0)).mono ?_
  rintro e w4 ⟨gt, rfl, hgt, hb4, ht⟩
  have hst : gs < gt := by have := hs.lt; omega
  replace hB := hB.below hb4 hB.lt
  replace hs := hs.below hb4
  replace hb0 := below_next hb0 (Nat.le_refl _) hb4
  clear hb4 hgt
  obtain ⟨c0, c1, c2, c3, c4, _, _, _, _, _⟩ := blk5 hB
  have q1 : decide ((300 : Int) < (len : Int)) = false := by simp; omega
  have q0 : decide ((300 : Int) < (nm.length : Int)) = false := by simp; omega
  have q2 : decide ((300 : Int) < (t.length : Int)) = false := by simp; omega
  go_wp2_with fail
  clear q1 q0 q2 c0 c1 c2 c3 c4
  replace hb0 := hb0.drew
  replace hB : Blk w4.drew w.heap.size 25 #[.string ⟨nm.toArray⟩, .int .i64 o, .int .i64 k, .int .i64 i, .string ⟨t.toArray⟩] := hB
  replace hs := hs.drew
  replace ht := ht.drew
  have hS0 : Below w.heap.size w w4.drew ∧ w4.drew.cell? ⟨w.heap.size, 0, none⟩ = some (.string ⟨nm.toArray⟩) ∧ w4.drew.cell? ⟨w.heap.size, 1, none⟩ = some (.int .i64 o) ∧ w4.drew.cell? ⟨w.heap.size, 2, none⟩ = some (.int .i64 k) ∧ w4.drew.cell? ⟨w.heap.size, 3, none⟩ = some (.int .i64 i) ∧ w4.drew.cell? ⟨w.heap.size, 4, none⟩ = some (.string ⟨t.toArray⟩) := ⟨hb0, hB.cell 0, hB.cell 1, hB.cell 2, hB.cell 3, hB.cell 4⟩
  refine wp_region_held_drew (S := fun w' => Below w.heap.size w w' ∧ w'.cell? ⟨w.heap.size, 0, none⟩ = some (.string ⟨nm.toArray⟩) ∧ w'.cell? ⟨w.heap.size, 1, none⟩ = some (.int .i64 o) ∧ w'.cell? ⟨w.heap.size, 2, none⟩ = some (.int .i64 k) ∧ w'.cell? ⟨w.heap.size, 3, none⟩ = some (.int .i64 i) ∧ w'.cell? ⟨w.heap.size, 4, none⟩ = some (.string ⟨t.toArray⟩)) (by kernel_rfl) hS0 (fun _ => ?_)
  refine wpAnyH_yes (i := 0) (d := 51) (v := ?_) rfl rfl (by kernel_rfl) (by kernel_rfl) (by kernel_rfl) (fun _ _ _ h => h) (by rfl) ?_ hS0 ?_
  rotate_left
  · intro w' hSw; go_simp <;> with_reducible rfl
  simp only [Act.put, List.setIfInBounds_toArray, List.set_cons_zero, List.set_cons_succ]
  refine wpAnyH_yes (i := 2) (d := 53) (v := ?_) rfl rfl (by kernel_rfl) (by kernel_rfl) (by kernel_rfl) (fun _ _ _ h => h) (by rfl) ?_ hS0 ?_
  rotate_left
  · intro w' hSw; go_simp <;> with_reducible rfl
  simp only [Act.put, List.setIfInBounds_toArray, List.set_cons_zero, List.set_cons_succ]
  refine wpAnyH_yes (i := 3) (d := 54) (v := ?_) rfl rfl (by kernel_rfl) (by kernel_rfl) (by kernel_rfl) (fun _ _ _ h => h) (by rfl) ?_ hS0 ?_
  rotate_left
  · intro w' hSw; go_simp <;> with_reducible rfl
  simp only [Act.put, List.setIfInBounds_toArray, List.set_cons_zero, List.set_cons_succ]
  refine wpAnyH_yes (i := 4) (d := 55) (v := .bool false) rfl rfl (by kernel_rfl) (by kernel_rfl) (by kernel_rfl) (fun _ _ _ h => h) (by rfl) ?_ hS0 ?_
  · intro w' hSw
    go_simp
    have h0 := HX0.out
    first | omega | (simp; omega)
  simp only [Act.put, List.setIfInBounds_toArray, List.set_cons_zero, List.set_cons_succ]
  refine wpAnyH_one (i := 1) (by kernel_rfl) rfl (by rfl) (fun Kx hK3 => ?_)
  go_simp
  with_reducible refine (pright_is nm o k i t _ (by omega) (by omega) false HR.out).mono ?_
  rintro e w5 ⟨rfl, hb5⟩
  replace hB := hB.below hb5 hB.lt
  replace hs := hs.below hb5
  replace ht := ht.below hb5
  replace hb0 := below_next hb0 (Nat.le_refl _) hb5
  have hS1 : Below w.heap.size w w5 ∧ w5.cell? ⟨w.heap.size, 0, none⟩ = some (.string ⟨nm.toArray⟩) ∧ w5.cell? ⟨w.heap.size, 1, none⟩ = some (.int .i64 o) ∧ w5.cell? ⟨w.heap.size, 2, none⟩ = some (.int .i64 k) ∧ w5.cell? ⟨w.heap.size, 3, none⟩ = some (.int .i64 i) ∧ w5.cell? ⟨w.heap.size, 4, none⟩ = some (.string ⟨t.toArray⟩) := ⟨hb0, hB.cell 0, hB.cell 1, hB.cell 2, hB.cell 3, hB.cell 4⟩
  go_wp2_with fail
  refine hK3.out _ _ hS1 ?_
  refine wpAnyH_yes (i := 5) (d := 56) (v := ?_) rfl rfl (by kernel_rfl) (by kernel_rfl) (by kernel_rfl) (fun _ _ _ h => h) (by rfl) ?_ hS1 ?_
  rotate_left
  · intro w' hSw; go_simp <;> with_reducible rfl
  simp only [Act.put, List.setIfInBounds_toArray, List.set_cons_zero, List.set_cons_succ]
  refine wpAnyH_yes (i := 6) (d := 57) (v := ?_) rfl rfl (by kernel_rfl) (by kernel_rfl) (by kernel_rfl) (fun _ _ _ h => h) (by rfl) ?_ hS1 ?_
  rotate_left
  · intro w' hSw; go_simp <;> with_reducible rfl
  simp only [Act.put, List.setIfInBounds_toArray, List.set_cons_zero, List.set_cons_succ]
  refine wpAnyH_yes (i := 7) (d := 58) (v := ?_) rfl rfl (by kernel_rfl) (by kernel_rfl) (by kernel_rfl) (fun _ _ _ h => h) (by rfl) ?_ hS1 ?_
  rotate_left
  · intro w' hSw; go_simp <;> with_reducible rfl
  simp only [Act.put, List.setIfInBounds_toArray, List.set_cons_zero, List.set_cons_succ]
  refine wpAnyH_one (i := 8) (by kernel_rfl) rfl (by rfl) (fun Kx hK4 => ?_)
  go_simp
  with_reducible refine (pright_is nm o k i t _ (by omega) (by omega) false HR.out).mono ?_
  rintro e w6 ⟨rfl, hb6⟩
  replace hB := hB.below hb6 hB.lt
  replace hs := hs.below hb6
  replace ht := ht.below hb6
  replace hb0 := below_next hb0 (Nat.le_refl _) hb6
  have hS2 : Below w.heap.size w w6 ∧ w6.cell? ⟨w.heap.size, 0, none⟩ = some (.string ⟨nm.toArray⟩) ∧ w6.cell? ⟨w.heap.size, 1, none⟩ = some (.int .i64 o) ∧ w6.cell? ⟨w.heap.size, 2, none⟩ = some (.int .i64 k) ∧ w6.cell? ⟨w.heap.size, 3, none⟩ = some (.int .i64 i) ∧ w6.cell? ⟨w.heap.size, 4, none⟩ = some (.string ⟨t.toArray⟩) := ⟨hb0, hB.cell 0, hB.cell 1, hB.cell 2, hB.cell 3, hB.cell 4⟩
  go_wp2_with fail
  refine hK4.out _ _ hS2 ?_
  refine wpAnyH_yes (i := 9) (d := 60) (v := ?_) rfl rfl (by kernel_rfl) (by kernel_rfl) (by kernel_rfl) (fun _ _ _ h => h) (by rfl) ?_ hS2 ?_
  rotate_left
  · intro w' hSw; go_simp <;> with_reducible rfl
  simp only [Act.put, List.setIfInBounds_toArray, List.set_cons_zero, List.set_cons_succ]
  refine wpAnyH_no (i := 10) (d := 61) rfl rfl (by kernel_rfl) (by kernel_rfl) (by kernel_rfl) (fun _ _ _ h => h) (by rfl) hS2 ?_
  simp only [Act.put, List.setIfInBounds_toArray, List.set_cons_zero, List.set_cons_succ]
  refine wpAnyH_no (i := 11) (d := 62) rfl rfl (by kernel_rfl) (by kernel_rfl) (by kernel_rfl) (fun _ _ _ h => h) (by rfl) hS2 ?_
  simp only [Act.put, List.setIfInBounds_toArray, List.set_cons_zero, List.set_cons_succ]
  refine wpAnyH_no (i := 12) (d := 63) rfl rfl (by kernel_rfl) (by kernel_rfl) (by kernel_rfl) (fun _ _ _ h => h) (by rfl) hS2 ?_
  simp only [Act.put, List.setIfInBounds_toArray, List.set_cons_zero, List.set_cons_succ]
  refine wpAnyH_no (i := 13) (d := 64) rfl rfl (by kernel_rfl) (by kernel_rfl) (by kernel_rfl) (fun _ _ _ h => h) (by rfl) hS2 ?_
  simp only [Act.put, List.setIfInBounds_toArray, List.set_cons_zero, List.set_cons_succ]
  refine wpAnyH_no (i := 14) (d := 65) rfl rfl (by kernel_rfl) (by kernel_rfl) (by kernel_rfl) (fun _ _ _ h => h) (by rfl) hS2 ?_
  simp only [Act.put, List.setIfInBounds_toArray, List.set_cons_zero, List.set_cons_succ]
  refine wpAnyH_no (i := 15) (d := 66) rfl rfl (by kernel_rfl) (by kernel_rfl) (by kernel_rfl) (fun _ _ _ h => h) (by rfl) hS2 ?_
  simp only [Act.put, List.setIfInBounds_toArray, List.set_cons_zero, List.set_cons_succ]
  refine wpAnyH_no (i := 16) (d := 67) rfl rfl (by kernel_rfl) (by kernel_rfl) (by kernel_rfl) (fun _ _ _ h => h) (by rfl) hS2 ?_
  simp only [Act.put, List.setIfInBounds_toArray, List.set_cons_zero, List.set_cons_succ]
  refine wpAnyH_no (i := 17) (d := 68) rfl rfl (by kernel_rfl) (by kernel_rfl) (by kernel_rfl) (fun _ _ _ h => h) (by rfl) hS2 ?_
  simp only [Act.put, List.setIfInBounds_toArray, List.set_cons_zero, List.set_cons_succ]
  refine wpAnyH_no (i := 18) (d := 69) rfl rfl (by kernel_rfl) (by kernel_rfl) (by kernel_rfl) (fun _ _ _ h => h) (by rfl) hS2 ?_
  simp only [Act.put, List.setIfInBounds_toArray, List.set_cons_zero, List.set_cons_succ]
  refine wpAnyH_yes (i := 19) (d := 70) (v := ?_) rfl rfl (by kernel_rfl) (by kernel_rfl) (by kernel_rfl) (fun _ _ _ h => h) (by rfl) ?_ hS2 ?_
  rotate_left
  · intro w' hSw; go_simp <;> with_reducible rfl
  simp only [Act.put, List.setIfInBounds_toArray, List.set_cons_zero, List.set_cons_succ]
  refine wpAnyH_yes (i := 20) (d := 71) (v := ?_) rfl rfl (by kernel_rfl) (by kernel_rfl) (by kernel_rfl) (fun _ _ _ h => h) (by rfl) ?_ hS2 ?_
  rotate_left
  · intro w' hSw; go_simp <;> with_reducible rfl
  simp only [Act.put, List.setIfInBounds_toArray, List.set_cons_zero, List.set_cons_succ]
  refine wpAnyH_done (by kernel_rfl) ?_ _
  clear hS0 hS1 hS2 hb5 hb6 hB
  generalize w6 = w8 at *
  go_wp2_with fail
  refine (pget_at w8 gt _ ht N O K I Tx s' HNm.out HO.out HK.out HI.out HT.out HS.out).mono ?_
  rintro e w9 ⟨rfl, ht9', hT9⟩
  replace hb0 := hT9.below hb0 hb0.size (by omega)
  clear ht hT9
  go_wp2_with fail
  obtain ⟨hY, hb10⟩ := box5 w9 25 (.string ⟨N.toArray⟩) (.int .i64 O) (.int .i64 K) (.int .i64 I) (.string ⟨Tx.toArray⟩)
  replace ht9' := ht9'.below hb10
  replace hb0 := below_next hb0 (Nat.le_refl _) hb10
  generalize w9.heap.size = gy at *
  generalize w9.alloc (.cells #[.string ⟨N.toArray⟩, .int .i64 O, .int .i64 K, .int .i64 I, .string ⟨Tx.toArray⟩] 25) = w10 at *
  clear hb10
  refine (err_at w10 gt s' ht9' 0 HZ.out).mono ?_
  rintro e w11 ⟨rfl, rfl⟩
  obtain ⟨d0, d1, d2, d3, d4, _, _, _, _, _⟩ := blk5 hY
  go_wp2_with fail
  refine (pput_at none [] 0 0 j N O K I Tx rfl (by rw [HY.out, HJ.out]; omega) (by omega) HB.out.1 HB.out.2 (by omega) (by omega) w10 (Or.inl rfl)).mono ?_
  rintro e w12 ⟨D2, c3, rfl, hc3, hb12, hr12⟩
  rw [List.nil_append, HY.out] at hr12
  replace hY := hY.below hb12 hY.lt
  replace ht9' := ht9'.below hb12
  replace hb0 := below_next hb0 (Nat.le_refl _) hb12
  have hra : Rd w12 A y := by rw [← HYB.out]; exact (rd.below hb0).take j
  have hhead := run_head A len cap j hjl hcap
  clear d0 d1 d2 d3 d4 hb12
  go_wp2_with fail
  have hkeep : Hid (∀ w', Below w12.heap.size w12 w' → Below w12.heap.size w12 w' ∧ w'.cell? ⟨gy, 0, none⟩ = some (.string ⟨N.toArray⟩) ∧ w'.cell? ⟨gy, 1, none⟩ = some (.int .i64 O) ∧ w'.cell? ⟨gy, 2, none⟩ = some (.int .i64 K) ∧ w'.cell? ⟨gy, 3, none⟩ = some (.int .i64 I) ∧ w'.cell? ⟨gy, 4, none⟩ = some (.string ⟨Tx.toArray⟩) ∧ Sem.run Try.prog (convert 27 9 (.slice D2 j c3)) w' = .ok (.string ⟨(y).toArray⟩) w' ∧ Sem.run Try.prog (convert 27 9 (.slice A j cap)) w' = .ok (.string ⟨(y).toArray⟩) w') := fun w' h => ⟨h, (hY.below h hY.lt).cell 0, (hY.below h hY.lt).cell 1, (hY.below h hY.lt).cell 2, (hY.below h hY.lt).cell 3, (hY.below h hY.lt).cell 4, str_below c3 hr12 HJ.out h, str_below cap hra HJ.out h⟩
  have hT0 := hkeep.out w12.drew (Below.refl _ _).drew
  refine wp_region_held_drew (S := fun w' => Below w12.heap.size w12 w' ∧ w'.cell? ⟨gy, 0, none⟩ = some (.string ⟨N.toArray⟩) ∧ w'.cell? ⟨gy, 1, none⟩ = some (.int .i64 O) ∧ w'.cell? ⟨gy, 2, none⟩ = some (.int .i64 K) ∧ w'.cell? ⟨gy, 3, none⟩ = some (.int .i64 I) ∧ w'.cell? ⟨gy, 4, none⟩ = some (.string ⟨Tx.toArray⟩) ∧ Sem.run Try.prog (convert 27 9 (.slice D2 j c3)) w' = .ok (.string ⟨(y).toArray⟩) w' ∧ Sem.run Try.prog (convert 27 9 (.slice A j cap)) w' = .ok (.string ⟨(y).toArray⟩) w') (by kernel_rfl) hT0 (fun _ => ?_)
  refine wpAnyH_yes (i := 0) (d := 85) (v := ?_) rfl rfl (by kernel_rfl) (by kernel_rfl) (by kernel_rfl) (fun _ _ _ h => h) (by rfl) ?_ hT0 ?_
  rotate_left
  · intro w' hSw; go_simp <;> with_reducible rfl
  simp only [Act.put, List.setIfInBounds_toArray, List.set_cons_zero, List.set_cons_succ]
  refine wpAnyH_yes (i := 1) (d := 86) (v := ?_) rfl rfl (by kernel_rfl) (by kernel_rfl) (by kernel_rfl) (fun _ _ _ h => h) (by rfl) ?_ hT0 ?_
  rotate_left
  · intro w' hSw; go_simp <;> with_reducible rfl
  simp only [Act.put, List.setIfInBounds_toArray, List.set_cons_zero, List.set_cons_succ]
  refine wpAnyH_yes (i := 2) (d := 87) (v := ?_) rfl rfl (by kernel_rfl) (by kernel_rfl) (by kernel_rfl) (fun _ _ _ h => h) (by rfl) ?_ hT0 ?_
  rotate_left
  · intro w' hSw; go_simp <;> with_reducible rfl
  simp only [Act.put, List.setIfInBounds_toArray, List.set_cons_zero, List.set_cons_succ]
  refine wpAnyH_one (i := 3) (by kernel_rfl) rfl (by rfl) (fun Kx hK5 => ?_)
  go_simp
  with_reducible refine (pright_is N O K I Tx _ (by omega) (by omega) true HRR.out).mono ?_
  rintro e w13 ⟨rfl, hb13⟩
  have hT1 := hkeep.out w13 (below_next hT0.1 (Nat.le_refl _) hb13)
  go_wp2_with fail
  refine hK5.out _ _ hT1 ?_
  have q3 : decide (j ≤ len) = true := by simpa using hjl
  refine wpAnyH_yes (i := 4) (d := 89) (v := ?_) rfl rfl (by kernel_rfl) (by kernel_rfl) (by kernel_rfl) (fun _ _ _ h => h) (by rfl) ?_ hT1 ?_
  rotate_left
  · intro w' hSw; go_simp <;> with_reducible rfl
  simp only [Act.put, List.setIfInBounds_toArray, List.set_cons_zero, List.set_cons_succ]
  refine wpAnyH_yes (i := 5) (d := 90) (v := ?_) rfl rfl (by kernel_rfl) (by kernel_rfl) (by kernel_rfl) (fun _ _ _ h => h) (by rfl) ?_ hT1 ?_
  rotate_left
  · intro w' hSw; go_simp <;> with_reducible rfl
  simp only [Act.put, List.setIfInBounds_toArray, List.set_cons_zero, List.set_cons_succ]
  refine wpAnyH_yes (i := 6) (d := 91) (v := ?_) rfl rfl (by kernel_rfl) (by kernel_rfl) (by kernel_rfl) (fun _ _ _ h => h) (by rfl) ?_ hT1 ?_
  rotate_left
  · intro w' hSw; go_simp <;> with_reducible rfl
  simp only [Act.put, List.setIfInBounds_toArray, List.set_cons_zero, List.set_cons_succ]
  refine wpAnyH_yes (i := 7) (d := 92) (v := ?_) rfl rfl (by kernel_rfl) (by kernel_rfl) (by kernel_rfl) (fun _ _ _ h => h) (by rfl) ?_ hT1 ?_
  rotate_left
  · intro w' hSw; go_simp <;> with_reducible rfl
  simp only [Act.put, List.setIfInBounds_toArray, List.set_cons_zero, List.set_cons_succ]
  refine wpAnyH_yes (i := 8) (d := 93) (v := ?_) rfl rfl (by kernel_rfl) (by kernel_rfl) (by kernel_rfl) (fun _ _ _ h => h) (by rfl) ?_ hT1 ?_
  rotate_left
  · intro w' hSw; go_simp <;> with_reducible rfl
  simp only [Act.put, List.setIfInBounds_toArray, List.set_cons_zero, List.set_cons_succ]
  refine wpAnyH_yes (i := 9) (d := 94) (v := ?_) rfl rfl (by kernel_rfl) (by kernel_rfl) (by kernel_rfl) (fun _ _ _ h => h) (by rfl) ?_ hT1 ?_
  rotate_left
  · intro w' hSw; go_simp <;> with_reducible rfl
  simp only [Act.put, List.setIfInBounds_toArray, List.set_cons_zero, List.set_cons_succ]
  refine wpAnyH_yes (i := 10) (d := 95) (v := ?_) rfl rfl (by kernel_rfl) (by kernel_rfl) (by kernel_rfl) (fun _ _ _ h => h) (by rfl) ?_ hT1 ?_
  rotate_left
  · intro w' hSw; go_simp <;> with_reducible rfl
  simp only [Act.put, List.setIfInBounds_toArray, List.set_cons_zero, List.set_cons_succ]
  refine wpAnyH_yes (i := 11) (d := 96) (v := ?_) rfl rfl (by kernel_rfl) (by kernel_rfl) (by kernel_rfl) (fun _ _ _ h => h) (by rfl) ?_ hT1 ?_
  rotate_left
  · intro w' hSw; go_simp <;> with_reducible rfl
  simp only [Act.put, List.setIfInBounds_toArray, List.set_cons_zero, List.set_cons_succ]
  refine wpAnyH_yes (i := 12) (d := 97) (v := ?_) rfl rfl (by kernel_rfl) (by kernel_rfl) (by kernel_rfl) (fun _ _ _ h => h) (by rfl) ?_ hT1 ?_
  rotate_left
  · intro w' hSw; go_simp <;> with_reducible rfl
  simp only [Act.put, List.setIfInBounds_toArray, List.set_cons_zero, List.set_cons_succ]
  refine wpAnyH_yes (i := 13) (d := 98) (v := ?_) rfl rfl (by kernel_rfl) (by kernel_rfl) (by kernel_rfl) (fun _ _ _ h => h) (by rfl) ?_ hT1 ?_
  rotate_left
  · intro w' hSw; go_simp <;> with_reducible rfl
  simp only [Act.put, List.setIfInBounds_toArray, List.set_cons_zero, List.set_cons_succ]
  refine wpAnyH_yes (i := 14) (d := 99) (v := ?_) rfl rfl (by kernel_rfl) (by kernel_rfl) (by kernel_rfl) (fun _ _ _ h => h) (by rfl) ?_ hT1 ?_
  rotate_left
  · intro w' hSw; go_simp <;> with_reducible rfl
  simp only [Act.put, List.setIfInBounds_toArray, List.set_cons_zero, List.set_cons_succ]
  refine wpAnyH_yes (i := 15) (d := 100) (v := ?_) rfl rfl (by kernel_rfl) (by kernel_rfl) (by kernel_rfl) (fun _ _ _ h => h) (by rfl) ?_ hT1 ?_
  rotate_left
  · intro w' hSw; go_simp <;> with_reducible rfl
  simp only [Act.put, List.setIfInBounds_toArray, List.set_cons_zero, List.set_cons_succ]
  refine wpAnyH_yes (i := 16) (d := 101) (v := ?_) rfl rfl (by kernel_rfl) (by kernel_rfl) (by kernel_rfl) (fun _ _ _ h => h) (by rfl) ?_ hT1 ?_
  rotate_left
  · intro w' hSw; go_simp <;> with_reducible rfl
  simp only [Act.put, List.setIfInBounds_toArray, List.set_cons_zero, List.set_cons_succ]
  refine wpAnyH_yes (i := 17) (d := 102) (v := ?_) rfl rfl (by kernel_rfl) (by kernel_rfl) (by kernel_rfl) (fun _ _ _ h => h) (by rfl) ?_ hT1 ?_
  rotate_left
  · intro w' hSw; go_simp <;> with_reducible rfl
  simp only [Act.put, List.setIfInBounds_toArray, List.set_cons_zero, List.set_cons_succ]
  refine wpAnyH_one (i := 18) (by kernel_rfl) rfl (by rfl) (fun Kx hK6 => ?_)
  go_simp
  with_reducible refine (left_at w13 gt s' (ht9'.below hT1.1) m HM.out).mono ?_
  rintro e w14 ⟨rfl, rfl⟩
  go_wp2_with fail
  refine hK6.out _ _ hT1 ?_
  refine wpAnyH_yes (i := 19) (d := 104) (v := .int .i64 (j : Int)) rfl rfl (by kernel_rfl) (by kernel_rfl) (by kernel_rfl) (fun _ _ _ h => h) (by rfl) ?_ hT1 ?_
  · intro w' hSw
    go_simp
    have h := HJM.out
    rw [show ((len : Int) - (m : Int)) = (j : Int) by omega]
    rw [IntKind.wrap_i64]
    omega
  simp only [Act.put, List.setIfInBounds_toArray, List.set_cons_zero, List.set_cons_succ]
  refine wpAnyH_yes (i := 20) (d := 105) (v := ?_) rfl rfl (by kernel_rfl) (by kernel_rfl) (by kernel_rfl) (fun _ _ _ h => h) (by rfl) ?_ hT1 ?_
  rotate_left
  · intro w' hSw; go_simp <;> with_reducible rfl
  simp only [Act.put, List.setIfInBounds_toArray, List.set_cons_zero, List.set_cons_succ]
  refine wpAnyH_yes (i := 21) (d := 106) (v := ?_) rfl rfl (by kernel_rfl) (by kernel_rfl) (by kernel_rfl) (fun _ _ _ h => h) (by rfl) ?_ hT1 ?_
  rotate_left
  · intro w' hSw; go_simp <;> with_reducible rfl
  simp only [Act.put, List.setIfInBounds_toArray, List.set_cons_zero, List.set_cons_succ]
  refine wpAnyH_yes (i := 22) (d := 107) (v := ?_) rfl rfl (by kernel_rfl) (by kernel_rfl) (by kernel_rfl) (fun _ _ _ h => h) (by rfl) ?_ hT1 ?_
  rotate_left
  · intro w' hSw; go_simp <;> with_reducible rfl
  simp only [Act.put, List.setIfInBounds_toArray, List.set_cons_zero, List.set_cons_succ]
  refine wpAnyH_yes (i := 23) (d := 108) (v := ?_) rfl rfl (by kernel_rfl) (by kernel_rfl) (by kernel_rfl) (fun _ _ _ h => h) (by rfl) ?_ hT1 ?_
  rotate_left
  · intro w' hSw; go_simp <;> with_reducible rfl
  simp only [Act.put, List.setIfInBounds_toArray, List.set_cons_zero, List.set_cons_succ]
  refine wpAnyH_yes (i := 24) (d := 109) (v := ?_) rfl rfl (by kernel_rfl) (by kernel_rfl) (by kernel_rfl) (fun _ _ _ h => h) (by rfl) ?_ hT1 ?_
  rotate_left
  · intro w' hSw; go_simp <;> with_reducible rfl
  simp only [Act.put, List.setIfInBounds_toArray, List.set_cons_zero, List.set_cons_succ]
  refine wpAnyH_yes (i := 25) (d := 110) (v := ?_) rfl rfl (by kernel_rfl) (by kernel_rfl) (by kernel_rfl) (fun _ _ _ h => h) (by rfl) ?_ hT1 ?_
  rotate_left
  · intro w' hSw; go_simp <;> with_reducible rfl
  simp only [Act.put, List.setIfInBounds_toArray, List.set_cons_zero, List.set_cons_succ]
  refine wpAnyH_yes (i := 26) (d := 111) (v := ?_) rfl rfl (by kernel_rfl) (by kernel_rfl) (by kernel_rfl) (fun _ _ _ h => h) (by rfl) ?_ hT1 ?_
  rotate_left
  · intro w' hSw; go_simp <;> with_reducible rfl
  simp only [Act.put, List.setIfInBounds_toArray, List.set_cons_zero, List.set_cons_succ]
  refine wpAnyH_yes (i := 27) (d := 112) (v := ?_) rfl rfl (by kernel_rfl) (by kernel_rfl) (by kernel_rfl) (fun _ _ _ h => h) (by rfl) ?_ hT1 ?_
  rotate_left
  · intro w' hSw; go_simp <;> with_reducible rfl
  simp only [Act.put, List.setIfInBounds_toArray, List.set_cons_zero, List.set_cons_succ]
  refine wpAnyH_yes (i := 28) (d := 113) (v := ?_) rfl rfl (by kernel_rfl) (by kernel_rfl) (by kernel_rfl) (fun _ _ _ h => h) (by rfl) ?_ hT1 ?_
  rotate_left
  · intro w' hSw; go_simp <;> with_reducible rfl
  simp only [Act.put, List.setIfInBounds_toArray, List.set_cons_zero, List.set_cons_succ]
  refine wpAnyH_yes (i := 29) (d := 114) (v := ?_) rfl rfl (by kernel_rfl) (by kernel_rfl) (by kernel_rfl) (fun _ _ _ h => h) (by rfl) ?_ hT1 ?_
  rotate_left
  · intro w' hSw; go_simp <;> with_reducible rfl
  simp only [Act.put, List.setIfInBounds_toArray, List.set_cons_zero, List.set_cons_succ]
  refine wpAnyH_yes (i := 30) (d := 115) (v := ?_) rfl rfl (by kernel_rfl) (by kernel_rfl) (by kernel_rfl) (fun _ _ _ h => h) (by rfl) ?_ hT1 ?_
  rotate_left
  · intro w' hSw; go_simp <;> with_reducible rfl
  simp only [Act.put, List.setIfInBounds_toArray, List.set_cons_zero, List.set_cons_succ]
  refine wpAnyH_yes (i := 31) (d := 116) (v := ?_) rfl rfl (by kernel_rfl) (by kernel_rfl) (by kernel_rfl) (fun _ _ _ h => h) (by rfl) ?_ hT1 ?_
  rotate_left
  · intro w' hSw; go_simp <;> with_reducible rfl
  simp only [Act.put, List.setIfInBounds_toArray, List.set_cons_zero, List.set_cons_succ]
  refine wpAnyH_yes (i := 32) (d := 4) (v := ?_) rfl rfl (by kernel_rfl) (by kernel_rfl) (by kernel_rfl) (fun _ _ _ h => h) (by rfl) ?_ hT1 ?_
  rotate_left
  · intro w' hSw; go_simp <;> with_reducible rfl
  simp only [Act.put, List.setIfInBounds_toArray, List.set_cons_zero, List.set_cons_succ]
  refine wpAnyH_done (by kernel_rfl) ?_ _
  have hbl := below_next hb0 (Nat.le_refl _) hT1.1
  go_wp2_with fail
  go_ret
  exact ⟨rfl, hbl⟩
set_option maxRecDepth 100000 in
set_option maxHeartbeats 3200000 in
theorem back_rb (w : World) (nm : List UInt8) (o k i : Int) (t : List UInt8) (A : Option Addr) (bs : List UInt8) (len cap : Nat) (hn : bs.length = len) (hm : len ≤ 300) (rd : Rd w A bs) (hi1 : -9223372036854775808 ≤ i) (hi2 : i ≤ 9223372036854775807) (hnm9 : nm.length ≤ 300) (ht9 : t.length ≤ 300)
    (x : List UInt8) (L : Nat) (hx : Preds.lay nm o k i t = x) (hL : x.length = L) (hL2 : L ≤ 300) (hr : Preds.right nm o k i t = true) (hx0 : 0 < L) (hg : Preds.getS ⟨x, 0⟩ = ⟨[], 0⟩ ∧ Preds.getN ⟨x, 0⟩ = nm ∧ Preds.getO ⟨x, 0⟩ = o ∧ Preds.getK ⟨x, 0⟩ = k ∧ Preds.getI ⟨x, 0⟩ = i ∧ Preds.getT ⟨x, 0⟩ = t)
    (N : List UInt8) (O K I : Int) (Tx : List UInt8) (s' : Wire.St) (hNm : Preds.getN ⟨bs, 0⟩ = N) (hO : Preds.getO ⟨bs, 0⟩ = O) (hK : Preds.getK ⟨bs, 0⟩ = K) (hI : Preds.getI ⟨bs, 0⟩ = I) (hTx : Preds.getT ⟨bs, 0⟩ = Tx) (hs' : Preds.getS ⟨bs, 0⟩ = s') (z : Int) (hz : s'.err = z) (hz0 : z ≠ 0) (hN0 : N = []) (hO0 : O = 0) (hK0 : K = 0) (hI0 : I = 0) (hT0 : Tx = []) :
    Calls Try.prog 5 #[.agg #[.string ⟨nm.toArray⟩, .int .i64 o, .int .i64 k, .int .i64 i, .string ⟨t.toArray⟩], .slice A len cap] w fun e w' => e = .returned (.bool true) ∧ Below w.heap.size w w' := by
  have HR := Lib.hid hr
  have HX0 := Lib.hid hx0
  have HG := Lib.hid hg
  have HNm := Lib.hid hNm
  have HO := Lib.hid hO
  have HK := Lib.hid hK
  have HI := Lib.hid hI
  have HT := Lib.hid hTx
  have HS := Lib.hid hs'
  have HZ := Lib.hid hz
  clear hr hx0 hNm hO hK hI hTx hs' hz hg
  have HN0 := Lib.hid hN0
  have HO0 := Lib.hid hO0
  have HK0 := Lib.hid hK0
  have HI0 := Lib.hid hI0
  have HT0 := Lib.hid hT0
  clear hN0 hO0 hK0 hI0 hT0
  have HN := Lib.hid hn
  have HX := Lib.hid hx
  have HL := Lib.hid hL
  clear hn hx hL
  go_enter Try.func5, Try.ntmps5
  go_wp2_with fail
  obtain ⟨hB, hb0⟩ := box5 w 25 (.string ⟨nm.toArray⟩) (.int .i64 o) (.int .i64 k) (.int .i64 i) (.string ⟨t.toArray⟩)
  generalize w.alloc (.cells #[.string ⟨nm.toArray⟩, .int .i64 o, .int .i64 k, .int .i64 i, .string ⟨t.toArray⟩] 25) = w0 at *
  refine (small_any w0).mono ?_
  rintro e w1 ⟨rfl, hb1⟩
  replace hB := hB.below hb1 hB.lt
  replace hb0 := below_next hb0 (Nat.le_refl _) hb1
  clear hb1
  obtain ⟨c0, c1, c2, c3, c4, _, _, _, _, _⟩ := blk5 hB
  go_wp2_with fail
  refine (pput_at none [] 0 0 L nm o k i t rfl (by rw [HX.out, HL.out]; omega) (by omega) hi1 hi2 (by omega) (by omega) w1 (Or.inl rfl)).mono ?_
  rintro e w2 ⟨D, c, rfl, hc, hb2, hr2⟩
  rw [List.nil_append, HX.out] at hr2
  clear c0 c1 c2 c3 c4
  replace hB := hB.below hb2 hB.lt
  replace hb0 := below_next hb0 (Nat.le_refl _) hb2
  clear hb2
  go_wp2_with fail
  refine (on_at D x L c HL.out (by omega) w2 hr2).mono ?_
  rintro e w3 ⟨gs, rfl, hgs, hb3, hs⟩
  have hVs : w.heap.size < gs := by have := hB.lt; omega
  replace hB := hB.below hb3 hB.lt
  replace hb0 := below_next hb0 (Nat.le_refl _) hb3
  clear hb3 hgs hr2
  go_wp2_with fail
  refine (on_at A bs len cap HN.out (by omega) w3 (rd.below hb0)).mono ?_
  rintro e w4 ⟨gt, rfl, hgt, hb4, ht⟩
  have hst : gs < gt := by have := hs.lt; omega
  replace hB := hB.below hb4 hB.lt
  replace hs := hs.below hb4
  replace hb0 := below_next hb0 (Nat.le_refl _) hb4
  clear hb4 hgt
  obtain ⟨c0, c1, c2, c3, c4, _, _, _, _, _⟩ := blk5 hB
  have q1 : decide ((300 : Int) < (len : Int)) = false := by simp; omega
  have q0 : decide ((300 : Int) < (nm.length : Int)) = false := by simp; omega
  have q2 : decide ((300 : Int) < (t.length : Int)) = false := by simp; omega
  go_wp2_with fail
  clear q1 q0 q2 c0 c1 c2 c3 c4
  replace hb0 := hb0.drew
  replace hB : Blk w4.drew w.heap.size 25 #[.string ⟨nm.toArray⟩, .int .i64 o, .int .i64 k, .int .i64 i, .string ⟨t.toArray⟩] := hB
  replace hs := hs.drew
  replace ht := ht.drew
  have hS0 : Below w.heap.size w w4.drew ∧ w4.drew.cell? ⟨w.heap.size, 0, none⟩ = some (.string ⟨nm.toArray⟩) ∧ w4.drew.cell? ⟨w.heap.size, 1, none⟩ = some (.int .i64 o) ∧ w4.drew.cell? ⟨w.heap.size, 2, none⟩ = some (.int .i64 k) ∧ w4.drew.cell? ⟨w.heap.size, 3, none⟩ = some (.int .i64 i) ∧ w4.drew.cell? ⟨w.heap.size, 4, none⟩ = some (.string ⟨t.toArray⟩) := ⟨hb0, hB.cell 0, hB.cell 1, hB.cell 2, hB.cell 3, hB.cell 4⟩
  refine wp_region_held_drew (S := fun w' => Below w.heap.size w w' ∧ w'.cell? ⟨w.heap.size, 0, none⟩ = some (.string ⟨nm.toArray⟩) ∧ w'.cell? ⟨w.heap.size, 1, none⟩ = some (.int .i64 o) ∧ w'.cell? ⟨w.heap.size, 2, none⟩ = some (.int .i64 k) ∧ w'.cell? ⟨w.heap.size, 3, none⟩ = some (.int .i64 i) ∧ w'.cell? ⟨w.heap.size, 4, none⟩ = some (.string ⟨t.toArray⟩)) (by kernel_rfl) hS0 (fun _ => ?_)
  refine wpAnyH_yes (i := 0) (d := 51) (v := ?_) rfl rfl (by kernel_rfl) (by kernel_rfl) (by kernel_rfl) (fun _ _ _ h => h) (by rfl) ?_ hS0 ?_
  rotate_left
  · intro w' hSw; go_simp <;> with_reducible rfl
  simp only [Act.put, List.setIfInBounds_toArray, List.set_cons_zero, List.set_cons_succ]
  refine wpAnyH_yes (i := 2) (d := 53) (v := ?_) rfl rfl (by kernel_rfl) (by kernel_rfl) (by kernel_rfl) (fun _ _ _ h => h) (by rfl) ?_ hS0 ?_
  rotate_left
  · intro w' hSw; go_simp <;> with_reducible rfl
  simp only [Act.put, List.setIfInBounds_toArray, List.set_cons_zero, List.set_cons_succ]
  refine wpAnyH_yes (i := 3) (d := 54) (v := ?_) rfl rfl (by kernel_rfl) (by kernel_rfl) (by kernel_rfl) (fun _ _ _ h => h) (by rfl) ?_ hS0 ?_
  rotate_left
  · intro w' hSw; go_simp <;> with_reducible rfl
  simp only [Act.put, List.setIfInBounds_toArray, List.set_cons_zero, List.set_cons_succ]
  refine wpAnyH_yes (i := 4) (d := 55) (v := .bool true) rfl rfl (by kernel_rfl) (by kernel_rfl) (by kernel_rfl) (fun _ _ _ h => h) (by rfl) ?_ hS0 ?_
  · intro w' hSw
    go_simp
    have h0 := HX0.out
    first | omega | (simp; omega)
  simp only [Act.put, List.setIfInBounds_toArray, List.set_cons_zero, List.set_cons_succ]
  refine wpAnyH_one (i := 1) (by kernel_rfl) rfl (by rfl) (fun Kx hK7 => ?_)
  go_simp
  with_reducible refine (pright_is nm o k i t _ (by omega) (by omega) true HR.out).mono ?_
  rintro e w5 ⟨rfl, hb5⟩
  replace hB := hB.below hb5 hB.lt
  replace hs := hs.below hb5
  replace ht := ht.below hb5
  replace hb0 := below_next hb0 (Nat.le_refl _) hb5
  have hS1 : Below w.heap.size w w5 ∧ w5.cell? ⟨w.heap.size, 0, none⟩ = some (.string ⟨nm.toArray⟩) ∧ w5.cell? ⟨w.heap.size, 1, none⟩ = some (.int .i64 o) ∧ w5.cell? ⟨w.heap.size, 2, none⟩ = some (.int .i64 k) ∧ w5.cell? ⟨w.heap.size, 3, none⟩ = some (.int .i64 i) ∧ w5.cell? ⟨w.heap.size, 4, none⟩ = some (.string ⟨t.toArray⟩) := ⟨hb0, hB.cell 0, hB.cell 1, hB.cell 2, hB.cell 3, hB.cell 4⟩
  go_wp2_with fail
  refine hK7.out _ _ hS1 ?_
  refine wpAnyH_yes (i := 5) (d := 56) (v := ?_) rfl rfl (by kernel_rfl) (by kernel_rfl) (by kernel_rfl) (fun _ _ _ h => h) (by rfl) ?_ hS1 ?_
  rotate_left
  · intro w' hSw; go_simp <;> with_reducible rfl
  simp only [Act.put, List.setIfInBounds_toArray, List.set_cons_zero, List.set_cons_succ]
  refine wpAnyH_yes (i := 6) (d := 57) (v := ?_) rfl rfl (by kernel_rfl) (by kernel_rfl) (by kernel_rfl) (fun _ _ _ h => h) (by rfl) ?_ hS1 ?_
  rotate_left
  · intro w' hSw; go_simp <;> with_reducible rfl
  simp only [Act.put, List.setIfInBounds_toArray, List.set_cons_zero, List.set_cons_succ]
  refine wpAnyH_yes (i := 7) (d := 58) (v := ?_) rfl rfl (by kernel_rfl) (by kernel_rfl) (by kernel_rfl) (fun _ _ _ h => h) (by rfl) ?_ hS1 ?_
  rotate_left
  · intro w' hSw; go_simp <;> with_reducible rfl
  simp only [Act.put, List.setIfInBounds_toArray, List.set_cons_zero, List.set_cons_succ]
  refine wpAnyH_one (i := 8) (by kernel_rfl) rfl (by rfl) (fun Kx hK8 => ?_)
  go_simp
  with_reducible refine (pright_is nm o k i t _ (by omega) (by omega) true HR.out).mono ?_
  rintro e w6 ⟨rfl, hb6⟩
  replace hB := hB.below hb6 hB.lt
  replace hs := hs.below hb6
  replace ht := ht.below hb6
  replace hb0 := below_next hb0 (Nat.le_refl _) hb6
  have hS2 : Below w.heap.size w w6 ∧ w6.cell? ⟨w.heap.size, 0, none⟩ = some (.string ⟨nm.toArray⟩) ∧ w6.cell? ⟨w.heap.size, 1, none⟩ = some (.int .i64 o) ∧ w6.cell? ⟨w.heap.size, 2, none⟩ = some (.int .i64 k) ∧ w6.cell? ⟨w.heap.size, 3, none⟩ = some (.int .i64 i) ∧ w6.cell? ⟨w.heap.size, 4, none⟩ = some (.string ⟨t.toArray⟩) := ⟨hb0, hB.cell 0, hB.cell 1, hB.cell 2, hB.cell 3, hB.cell 4⟩
  go_wp2_with fail
  refine hK8.out _ _ hS2 ?_
  refine wpAnyH_yes (i := 9) (d := 60) (v := ?_) rfl rfl (by kernel_rfl) (by kernel_rfl) (by kernel_rfl) (fun _ _ _ h => h) (by rfl) ?_ hS2 ?_
  rotate_left
  · intro w' hSw; go_simp <;> with_reducible rfl
  simp only [Act.put, List.setIfInBounds_toArray, List.set_cons_zero, List.set_cons_succ]
  refine wpAnyH_yes (i := 10) (d := 61) (v := ?_) rfl rfl (by kernel_rfl) (by kernel_rfl) (by kernel_rfl) (fun _ _ _ h => h) (by rfl) ?_ hS2 ?_
  rotate_left
  · intro w' hSw; go_simp <;> with_reducible rfl
  simp only [Act.put, List.setIfInBounds_toArray, List.set_cons_zero, List.set_cons_succ]
  refine wpAnyH_yes (i := 12) (d := 63) (v := ?_) rfl rfl (by kernel_rfl) (by kernel_rfl) (by kernel_rfl) (fun _ _ _ h => h) (by rfl) ?_ hS2 ?_
  rotate_left
  · intro w' hSw; go_simp <;> with_reducible rfl
  simp only [Act.put, List.setIfInBounds_toArray, List.set_cons_zero, List.set_cons_succ]
  refine wpAnyH_one (i := 11) (by kernel_rfl) rfl (by rfl) (fun Kx hK9 => ?_)
  go_simp
  with_reducible refine (pget_at w6 gs _ hs nm o k i t ⟨[], 0⟩ HG.out.2.1 HG.out.2.2.1 HG.out.2.2.2.1 HG.out.2.2.2.2.1 HG.out.2.2.2.2.2 HG.out.1).mono ?_
  rintro e w7 ⟨rfl, hs7, hT⟩
  replace hB := hT.blk hB (by omega)
  replace ht := hT.sc hs ht (by omega)
  replace hb0 := hT.below hb0 hb0.size (by omega)
  have hS3 : Below w.heap.size w w7 ∧ w7.cell? ⟨w.heap.size, 0, none⟩ = some (.string ⟨nm.toArray⟩) ∧ w7.cell? ⟨w.heap.size, 1, none⟩ = some (.int .i64 o) ∧ w7.cell? ⟨w.heap.size, 2, none⟩ = some (.int .i64 k) ∧ w7.cell? ⟨w.heap.size, 3, none⟩ = some (.int .i64 i) ∧ w7.cell? ⟨w.heap.size, 4, none⟩ = some (.string ⟨t.toArray⟩) := ⟨hb0, hB.cell 0, hB.cell 1, hB.cell 2, hB.cell 3, hB.cell 4⟩
  go_wp2_with fail
  refine hK9.out _ _ hS3 ?_
  refine wpAnyH_yes (i := 13) (d := 64) (v := ?_) rfl rfl (by kernel_rfl) (by kernel_rfl) (by kernel_rfl) (fun _ _ _ h => h) (by rfl) ?_ hS3 ?_
  rotate_left
  · intro w' hSw; go_simp <;> with_reducible rfl
  simp only [Act.put, List.setIfInBounds_toArray, List.set_cons_zero, List.set_cons_succ]
  refine wpAnyH_yes (i := 14) (d := 65) (v := ?_) rfl rfl (by kernel_rfl) (by kernel_rfl) (by kernel_rfl) (fun _ _ _ h => h) (by rfl) ?_ hS3 ?_
  rotate_left
  · intro w' hSw; go_simp <;> with_reducible rfl
  simp only [Act.put, List.setIfInBounds_toArray, List.set_cons_zero, List.set_cons_succ]
  refine wpAnyH_yes (i := 15) (d := 66) (v := ?_) rfl rfl (by kernel_rfl) (by kernel_rfl) (by kernel_rfl) (fun _ _ _ h => h) (by rfl) ?_ hS3 ?_
  rotate_left
  · intro w' hSw; go_simp <;> with_reducible rfl
  simp only [Act.put, List.setIfInBounds_toArray, List.set_cons_zero, List.set_cons_succ]
  refine wpAnyH_one (i := 16) (by kernel_rfl) rfl (by rfl) (fun Kx hK10 => ?_)
  go_simp
  with_reducible refine (end_at w7 gs _ hs7 0 rfl).mono ?_
  rintro e w8 ⟨rfl, rfl⟩
  go_wp2_with fail
  refine hK10.out _ _ hS3 ?_
  refine wpAnyH_yes (i := 17) (d := 68) (v := ?_) rfl rfl (by kernel_rfl) (by kernel_rfl) (by kernel_rfl) (fun _ _ _ h => h) (by rfl) ?_ hS3 ?_
  rotate_left
  · intro w' hSw; go_simp <;> with_reducible rfl
  simp only [Act.put, List.setIfInBounds_toArray, List.set_cons_zero, List.set_cons_succ]
  refine wpAnyH_yes (i := 18) (d := 69) (v := ?_) rfl rfl (by kernel_rfl) (by kernel_rfl) (by kernel_rfl) (fun _ _ _ h => h) (by rfl) ?_ hS3 ?_
  rotate_left
  · intro w' hSw; go_simp <;> with_reducible rfl
  simp only [Act.put, List.setIfInBounds_toArray, List.set_cons_zero, List.set_cons_succ]
  refine wpAnyH_yes (i := 19) (d := 70) (v := ?_) rfl rfl (by kernel_rfl) (by kernel_rfl) (by kernel_rfl) (fun _ _ _ h => h) (by rfl) ?_ hS3 ?_
  rotate_left
  · intro w' hSw; go_simp <;> with_reducible rfl
  simp only [Act.put, List.setIfInBounds_toArray, List.set_cons_zero, List.set_cons_succ]
  refine wpAnyH_yes (i := 20) (d := 71) (v := ?_) rfl rfl (by kernel_rfl) (by kernel_rfl) (by kernel_rfl) (fun _ _ _ h => h) (by rfl) ?_ hS3 ?_
  rotate_left
  · intro w' hSw; go_simp <;> with_reducible rfl
  simp only [Act.put, List.setIfInBounds_toArray, List.set_cons_zero, List.set_cons_succ]
  refine wpAnyH_done (by kernel_rfl) ?_ _
  clear hS0 hS1 hS2 hS3 hb5 hb6 hB hs hs7 hT
  generalize w7 = w8 at *
  go_wp2_with fail
  refine (pget_at w8 gt _ ht N O K I Tx s' HNm.out HO.out HK.out HI.out HT.out HS.out).mono ?_
  rintro e w9 ⟨rfl, ht9', hT9⟩
  replace hb0 := hT9.below hb0 hb0.size (by omega)
  clear ht hT9
  go_wp2_with fail
  obtain ⟨hY, hb10⟩ := box5 w9 25 (.string ⟨N.toArray⟩) (.int .i64 O) (.int .i64 K) (.int .i64 I) (.string ⟨Tx.toArray⟩)
  replace ht9' := ht9'.below hb10
  replace hb0 := below_next hb0 (Nat.le_refl _) hb10
  generalize w9.heap.size = gy at *
  generalize w9.alloc (.cells #[.string ⟨N.toArray⟩, .int .i64 O, .int .i64 K, .int .i64 I, .string ⟨Tx.toArray⟩] 25) = w10 at *
  clear hb10
  have hd : (z != 0) = true := by simpa using hz0
  refine (err_at w10 gt s' ht9' z HZ.out).mono ?_
  rintro e w11 ⟨rfl, rfl⟩
  clear HNm HO HK HI HT
  obtain rfl := HN0.out
  obtain rfl := HO0.out
  obtain rfl := HK0.out
  obtain rfl := HI0.out
  obtain rfl := HT0.out
  obtain ⟨d0, d1, d2, d3, d4, _, _, _, _, _⟩ := blk5 hY
  go_wp2_with fail
  go_ret
  exact ⟨rfl, hb0⟩
set_option maxRecDepth 100000 in
set_option maxHeartbeats 3200000 in
theorem back_rg (w : World) (nm : List UInt8) (o k i : Int) (t : List UInt8) (A : Option Addr) (bs : List UInt8) (len cap : Nat) (hn : bs.length = len) (hm : len ≤ 300) (rd : Rd w A bs) (hi1 : -9223372036854775808 ≤ i) (hi2 : i ≤ 9223372036854775807) (hnm9 : nm.length ≤ 300) (ht9 : t.length ≤ 300)
    (x : List UInt8) (L : Nat) (hx : Preds.lay nm o k i t = x) (hL : x.length = L) (hL2 : L ≤ 300) (hr : Preds.right nm o k i t = true) (hx0 : 0 < L) (hg : Preds.getS ⟨x, 0⟩ = ⟨[], 0⟩ ∧ Preds.getN ⟨x, 0⟩ = nm ∧ Preds.getO ⟨x, 0⟩ = o ∧ Preds.getK ⟨x, 0⟩ = k ∧ Preds.getI ⟨x, 0⟩ = i ∧ Preds.getT ⟨x, 0⟩ = t)
    (N : List UInt8) (O K I : Int) (Tx : List UInt8) (s' : Wire.St) (hNm : Preds.getN ⟨bs, 0⟩ = N) (hO : Preds.getO ⟨bs, 0⟩ = O) (hK : Preds.getK ⟨bs, 0⟩ = K) (hI : Preds.getI ⟨bs, 0⟩ = I) (hTx : Preds.getT ⟨bs, 0⟩ = Tx) (hs' : Preds.getS ⟨bs, 0⟩ = s') (hz : s'.err = 0) (j m : Nat) (y : List UInt8) (hjl : j ≤ len) (hyb : bs.take j = y) (hj : y.length = j) (hm9 : s'.rest.length = m) (hjm : len = j + m) (hrr : Preds.right N O K I Tx = true) (hyl : Preds.lay N O K I Tx = y) (hbd : (-9223372036854775808 ≤ I ∧ I ≤ 9223372036854775807) ∧ N.length ≤ 16 ∧ Tx.length ≤ 32) (hcap : len ≤ cap) :
    Calls Try.prog 5 #[.agg #[.string ⟨nm.toArray⟩, .int .i64 o, .int .i64 k, .int .i64 i, .string ⟨t.toArray⟩], .slice A len cap] w fun e w' => e = .returned (.bool true) ∧ Below w.heap.size w w' := by
  have HR := Lib.hid hr
  have HX0 := Lib.hid hx0
  have HG := Lib.hid hg
  have HNm := Lib.hid hNm
  have HO := Lib.hid hO
  have HK := Lib.hid hK
  have HI := Lib.hid hI
  have HT := Lib.hid hTx
  have HS := Lib.hid hs'
  have HZ := Lib.hid hz
  clear hr hx0 hNm hO hK hI hTx hs' hz hg
  have HYB := Lib.hid hyb
  have HJ := Lib.hid hj
  have HM := Lib.hid hm9
  have HRR := Lib.hid hrr
  have HY := Lib.hid hyl
  have HB : Hid (-9223372036854775808 ≤ I ∧ I ≤ 9223372036854775807) := hbd.1
  have hN16 := hbd.2.1
  have hTx32 := hbd.2.2
  have HJM := Lib.hid hjm
  clear hyb hj hm9 hrr hyl hbd hjm
  have HN := Lib.hid hn
  have HX := Lib.hid hx
  have HL := Lib.hid hL
  clear hn hx hL
  go_enter Try.func5, Try.ntmps5
  go_wp2_with fail
  obtain ⟨hB, hb0⟩ := box5 w 25 (.string ⟨nm.toArray⟩) (.int .i64 o) (.int .i64 k) (.int .i64 i) (.string ⟨t.toArray⟩)
  generalize w.alloc (.cells #[.string ⟨nm.toArray⟩, .int .i64 o, .int .i64 k, .int .i64 i, .string ⟨t.toArray⟩] 25) = w0 at *
  refine (small_any w0).mono ?_
  rintro e w1 ⟨rfl, hb1⟩
  replace hB := hB.below hb1 hB.lt
  replace hb0 := below_next hb0 (Nat.le_refl _) hb1
  clear hb1
  obtain ⟨c0, c1, c2, c3, c4, _, _, _, _, _⟩ := blk5 hB
  go_wp2_with fail
  refine (pput_at none [] 0 0 L nm o k i t rfl (by rw [HX.out, HL.out]; omega) (by omega) hi1 hi2 (by omega) (by omega) w1 (Or.inl rfl)).mono ?_
  rintro e w2 ⟨D, c, rfl, hc, hb2, hr2⟩
  rw [List.nil_append, HX.out] at hr2
  clear c0 c1 c2 c3 c4
  replace hB := hB.below hb2 hB.lt
  replace hb0 := below_next hb0 (Nat.le_refl _) hb2
  clear hb2
  go_wp2_with fail
  refine (on_at D x L c HL.out (by omega) w2 hr2).mono ?_
  rintro e w3 ⟨gs, rfl, hgs, hb3, hs⟩
  have hVs : w.heap.size < gs := by have := hB.lt; omega
  replace hB := hB.below hb3 hB.lt
  replace hb0 := below_next hb0 (Nat.le_refl _) hb3
  clear hb3 hgs hr2
  go_wp2_with fail
  refine (on_at A bs len cap HN.out (by omega) w3 (rd.below hb0)).mono ?_
  rintro e w4 ⟨gt, rfl, hgt, hb4, ht⟩
  have hst : gs < gt := by have := hs.lt; omega
  replace hB := hB.below hb4 hB.lt
  replace hs := hs.below hb4
  replace hb0 := below_next hb0 (Nat.le_refl _) hb4
  clear hb4 hgt
  obtain ⟨c0, c1, c2, c3, c4, _, _, _, _, _⟩ := blk5 hB
  have q1 : decide ((300 : Int) < (len : Int)) = false := by simp; omega
  have q0 : decide ((300 : Int) < (nm.length : Int)) = false := by simp; omega
  have q2 : decide ((300 : Int) < (t.length : Int)) = false := by simp; omega
  go_wp2_with fail
  clear q1 q0 q2 c0 c1 c2 c3 c4
  replace hb0 := hb0.drew
  replace hB : Blk w4.drew w.heap.size 25 #[.string ⟨nm.toArray⟩, .int .i64 o, .int .i64 k, .int .i64 i, .string ⟨t.toArray⟩] := hB
  replace hs := hs.drew
  replace ht := ht.drew
  have hS0 : Below w.heap.size w w4.drew ∧ w4.drew.cell? ⟨w.heap.size, 0, none⟩ = some (.string ⟨nm.toArray⟩) ∧ w4.drew.cell? ⟨w.heap.size, 1, none⟩ = some (.int .i64 o) ∧ w4.drew.cell? ⟨w.heap.size, 2, none⟩ = some (.int .i64 k) ∧ w4.drew.cell? ⟨w.heap.size, 3, none⟩ = some (.int .i64 i) ∧ w4.drew.cell? ⟨w.heap.size, 4, none⟩ = some (.string ⟨t.toArray⟩) := ⟨hb0, hB.cell 0, hB.cell 1, hB.cell 2, hB.cell 3, hB.cell 4⟩
  refine wp_region_held_drew (S := fun w' => Below w.heap.size w w' ∧ w'.cell? ⟨w.heap.size, 0, none⟩ = some (.string ⟨nm.toArray⟩) ∧ w'.cell? ⟨w.heap.size, 1, none⟩ = some (.int .i64 o) ∧ w'.cell? ⟨w.heap.size, 2, none⟩ = some (.int .i64 k) ∧ w'.cell? ⟨w.heap.size, 3, none⟩ = some (.int .i64 i) ∧ w'.cell? ⟨w.heap.size, 4, none⟩ = some (.string ⟨t.toArray⟩)) (by kernel_rfl) hS0 (fun _ => ?_)
  refine wpAnyH_yes (i := 0) (d := 51) (v := ?_) rfl rfl (by kernel_rfl) (by kernel_rfl) (by kernel_rfl) (fun _ _ _ h => h) (by rfl) ?_ hS0 ?_
  rotate_left
  · intro w' hSw; go_simp <;> with_reducible rfl
  simp only [Act.put, List.setIfInBounds_toArray, List.set_cons_zero, List.set_cons_succ]
  refine wpAnyH_yes (i := 2) (d := 53) (v := ?_) rfl rfl (by kernel_rfl) (by kernel_rfl) (by kernel_rfl) (fun _ _ _ h => h) (by rfl) ?_ hS0 ?_
  rotate_left
  · intro w' hSw; go_simp <;> with_reducible rfl
  simp only [Act.put, List.setIfInBounds_toArray, List.set_cons_zero, List.set_cons_succ]
  refine wpAnyH_yes (i := 3) (d := 54) (v := ?_) rfl rfl (by kernel_rfl) (by kernel_rfl) (by kernel_rfl) (fun _ _ _ h => h) (by rfl) ?_ hS0 ?_
  rotate_left
  · intro w' hSw; go_simp <;> with_reducible rfl
  simp only [Act.put, List.setIfInBounds_toArray, List.set_cons_zero, List.set_cons_succ]
  refine wpAnyH_yes (i := 4) (d := 55) (v := .bool true) rfl rfl (by kernel_rfl) (by kernel_rfl) (by kernel_rfl) (fun _ _ _ h => h) (by rfl) ?_ hS0 ?_
  · intro w' hSw
    go_simp
    have h0 := HX0.out
    first | omega | (simp; omega)
  simp only [Act.put, List.setIfInBounds_toArray, List.set_cons_zero, List.set_cons_succ]
  refine wpAnyH_one (i := 1) (by kernel_rfl) rfl (by rfl) (fun Kx hK11 => ?_)
  go_simp
  with_reducible refine (pright_is nm o k i t _ (by omega) (by omega) true HR.out).mono ?_
  rintro e w5 ⟨rfl, hb5⟩
  replace hB := hB.below hb5 hB.lt
  replace hs := hs.below hb5
  replace ht := ht.below hb5
  replace hb0 := below_next hb0 (Nat.le_refl _) hb5
  have hS1 : Below w.heap.size w w5 ∧ w5.cell? ⟨w.heap.size, 0, none⟩ = some (.string ⟨nm.toArray⟩) ∧ w5.cell? ⟨w.heap.size, 1, none⟩ = some (.int .i64 o) ∧ w5.cell? ⟨w.heap.size, 2, none⟩ = some (.int .i64 k) ∧ w5.cell? ⟨w.heap.size, 3, none⟩ = some (.int .i64 i) ∧ w5.cell? ⟨w.heap.size, 4, none⟩ = some (.string ⟨t.toArray⟩) := ⟨hb0, hB.cell 0, hB.cell 1, hB.cell 2, hB.cell 3, hB.cell 4⟩
  go_wp2_with fail
  refine hK11.out _ _ hS1 ?_
  refine wpAnyH_yes (i := 5) (d := 56) (v := ?_) rfl rfl (by kernel_rfl) (by kernel_rfl) (by kernel_rfl) (fun _ _ _ h => h) (by rfl) ?_ hS1 ?_
  rotate_left
  · intro w' hSw; go_simp <;> with_reducible rfl
  simp only [Act.put, List.setIfInBounds_toArray, List.set_cons_zero, List.set_cons_succ]
  refine wpAnyH_yes (i := 6) (d := 57) (v := ?_) rfl rfl (by kernel_rfl) (by kernel_rfl) (by kernel_rfl) (fun _ _ _ h => h) (by rfl) ?_ hS1 ?_
  rotate_left
  · intro w' hSw; go_simp <;> with_reducible rfl
  simp only [Act.put, List.setIfInBounds_toArray, List.set_cons_zero, List.set_cons_succ]
  refine wpAnyH_yes (i := 7) (d := 58) (v := ?_) rfl rfl (by kernel_rfl) (by kernel_rfl) (by kernel_rfl) (fun _ _ _ h => h) (by rfl) ?_ hS1 ?_
  rotate_left
  · intro w' hSw; go_simp <;> with_reducible rfl
  simp only [Act.put, List.setIfInBounds_toArray, List.set_cons_zero, List.set_cons_succ]
  refine wpAnyH_one (i := 8) (by kernel_rfl) rfl (by rfl) (fun Kx hK12 => ?_)
  go_simp
  with_reducible refine (pright_is nm o k i t _ (by omega) (by omega) true HR.out).mono ?_
  rintro e w6 ⟨rfl, hb6⟩
  replace hB := hB.below hb6 hB.lt
  replace hs := hs.below hb6
  replace ht := ht.below hb6
  replace hb0 := below_next hb0 (Nat.le_refl _) hb6
  have hS2 : Below w.heap.size w w6 ∧ w6.cell? ⟨w.heap.size, 0, none⟩ = some (.string ⟨nm.toArray⟩) ∧ w6.cell? ⟨w.heap.size, 1, none⟩ = some (.int .i64 o) ∧ w6.cell? ⟨w.heap.size, 2, none⟩ = some (.int .i64 k) ∧ w6.cell? ⟨w.heap.size, 3, none⟩ = some (.int .i64 i) ∧ w6.cell? ⟨w.heap.size, 4, none⟩ = some (.string ⟨t.toArray⟩) := ⟨hb0, hB.cell 0, hB.cell 1, hB.cell 2, hB.cell 3, hB.cell 4⟩
  go_wp2_with fail
  refine hK12.out _ _ hS2 ?_
  refine wpAnyH_yes (i := 9) (d := 60) (v := ?_) rfl rfl (by kernel_rfl) (by kernel_rfl) (by kernel_rfl) (fun _ _ _ h => h) (by rfl) ?_ hS2 ?_
  rotate_left
  · intro w' hSw; go_simp <;> with_reducible rfl
  simp only [Act.put, List.setIfInBounds_toArray, List.set_cons_zero, List.set_cons_succ]
  refine wpAnyH_yes (i := 10) (d := 61) (v := ?_) rfl rfl (by kernel_rfl) (by kernel_rfl) (by kernel_rfl) (fun _ _ _ h => h) (by rfl) ?_ hS2 ?_
  rotate_left
  · intro w' hSw; go_simp <;> with_reducible rfl
  simp only [Act.put, List.setIfInBounds_toArray, List.set_cons_zero, List.set_cons_succ]
  refine wpAnyH_yes (i := 12) (d := 63) (v := ?_) rfl rfl (by kernel_rfl) (by kernel_rfl) (by kernel_rfl) (fun _ _ _ h => h) (by rfl) ?_ hS2 ?_
  rotate_left
  · intro w' hSw; go_simp <;> with_reducible rfl
  simp only [Act.put, List.setIfInBounds_toArray, List.set_cons_zero, List.set_cons_succ]
  refine wpAnyH_one (i := 11) (by kernel_rfl) rfl (by rfl) (fun Kx hK13 => ?_)
  go_simp
  with_reducible refine (pget_at w6 gs _ hs nm o k i t ⟨[], 0⟩ HG.out.2.1 HG.out.2.2.1 HG.out.2.2.2.1 HG.out.2.2.2.2.1 HG.out.2.2.2.2.2 HG.out.1).mono ?_
  rintro e w7 ⟨rfl, hs7, hT⟩
  replace hB := hT.blk hB (by omega)
  replace ht := hT.sc hs ht (by omega)
  replace hb0 := hT.below hb0 hb0.size (by omega)
  have hS3 : Below w.heap.size w w7 ∧ w7.cell? ⟨w.heap.size, 0, none⟩ = some (.string ⟨nm.toArray⟩) ∧ w7.cell? ⟨w.heap.size, 1, none⟩ = some (.int .i64 o) ∧ w7.cell? ⟨w.heap.size, 2, none⟩ = some (.int .i64 k) ∧ w7.cell? ⟨w.heap.size, 3, none⟩ = some (.int .i64 i) ∧ w7.cell? ⟨w.heap.size, 4, none⟩ = some (.string ⟨t.toArray⟩) := ⟨hb0, hB.cell 0, hB.cell 1, hB.cell 2, hB.cell 3, hB.cell 4⟩
  go_wp2_with fail
  refine hK13.out _ _ hS3 ?_
  refine wpAnyH_yes (i := 13) (d := 64) (v := ?_) rfl rfl (by kernel_rfl) (by kernel_rfl) (by kernel_rfl) (fun _ _ _ h => h) (by rfl) ?_ hS3 ?_
  rotate_left
  · intro w' hSw; go_simp <;> with_reducible rfl
  simp only [Act.put, List.setIfInBounds_toArray, List.set_cons_zero, List.set_cons_succ]
  refine wpAnyH_yes (i := 14) (d := 65) (v := ?_) rfl rfl (by kernel_rfl) (by kernel_rfl) (by kernel_rfl) (fun _ _ _ h => h) (by rfl) ?_ hS3 ?_
  rotate_left
  · intro w' hSw; go_simp <;> with_reducible rfl
  simp only [Act.put, List.setIfInBounds_toArray, List.set_cons_zero, List.set_cons_succ]
  refine wpAnyH_yes (i := 15) (d := 66) (v := ?_) rfl rfl (by kernel_rfl) (by kernel_rfl) (by kernel_rfl) (fun _ _ _ h => h) (by rfl) ?_ hS3 ?_
  rotate_left
  · intro w' hSw; go_simp <;> with_reducible rfl
  simp only [Act.put, List.setIfInBounds_toArray, List.set_cons_zero, List.set_cons_succ]
  refine wpAnyH_one (i := 16) (by kernel_rfl) rfl (by rfl) (fun Kx hK14 => ?_)
  go_simp
  with_reducible refine (end_at w7 gs _ hs7 0 rfl).mono ?_
  rintro e w8 ⟨rfl, rfl⟩
  go_wp2_with fail
  refine hK14.out _ _ hS3 ?_
  refine wpAnyH_yes (i := 17) (d := 68) (v := ?_) rfl rfl (by kernel_rfl) (by kernel_rfl) (by kernel_rfl) (fun _ _ _ h => h) (by rfl) ?_ hS3 ?_
  rotate_left
  · intro w' hSw; go_simp <;> with_reducible rfl
  simp only [Act.put, List.setIfInBounds_toArray, List.set_cons_zero, List.set_cons_succ]
  refine wpAnyH_yes (i := 18) (d := 69) (v := ?_) rfl rfl (by kernel_rfl) (by kernel_rfl) (by kernel_rfl) (fun _ _ _ h => h) (by rfl) ?_ hS3 ?_
  rotate_left
  · intro w' hSw; go_simp <;> with_reducible rfl
  simp only [Act.put, List.setIfInBounds_toArray, List.set_cons_zero, List.set_cons_succ]
  refine wpAnyH_yes (i := 19) (d := 70) (v := ?_) rfl rfl (by kernel_rfl) (by kernel_rfl) (by kernel_rfl) (fun _ _ _ h => h) (by rfl) ?_ hS3 ?_
  rotate_left
  · intro w' hSw; go_simp <;> with_reducible rfl
  simp only [Act.put, List.setIfInBounds_toArray, List.set_cons_zero, List.set_cons_succ]
  refine wpAnyH_yes (i := 20) (d := 71) (v := ?_) rfl rfl (by kernel_rfl) (by kernel_rfl) (by kernel_rfl) (fun _ _ _ h => h) (by rfl) ?_ hS3 ?_
  rotate_left
  · intro w' hSw; go_simp <;> with_reducible rfl
  simp only [Act.put, List.setIfInBounds_toArray, List.set_cons_zero, List.set_cons_succ]
  refine wpAnyH_done (by kernel_rfl) ?_ _
  clear hS0 hS1 hS2 hS3 hb5 hb6 hB hs hs7 hT
  generalize w7 = w8 at *
  go_wp2_with fail
  refine (pget_at w8 gt _ ht N O K I Tx s' HNm.out HO.out HK.out HI.out HT.out HS.out).mono ?_
  rintro e w9 ⟨rfl, ht9', hT9⟩
  replace hb0 := hT9.below hb0 hb0.size (by omega)
  clear ht hT9
  go_wp2_with fail
  obtain ⟨hY, hb10⟩ := box5 w9 25 (.string ⟨N.toArray⟩) (.int .i64 O) (.int .i64 K) (.int .i64 I) (.string ⟨Tx.toArray⟩)
  replace ht9' := ht9'.below hb10
  replace hb0 := below_next hb0 (Nat.le_refl _) hb10
  generalize w9.heap.size = gy at *
  generalize w9.alloc (.cells #[.string ⟨N.toArray⟩, .int .i64 O, .int .i64 K, .int .i64 I, .string ⟨Tx.toArray⟩] 25) = w10 at *
  clear hb10
  refine (err_at w10 gt s' ht9' 0 HZ.out).mono ?_
  rintro e w11 ⟨rfl, rfl⟩
  obtain ⟨d0, d1, d2, d3, d4, _, _, _, _, _⟩ := blk5 hY
  go_wp2_with fail
  refine (pput_at none [] 0 0 j N O K I Tx rfl (by rw [HY.out, HJ.out]; omega) (by omega) HB.out.1 HB.out.2 (by omega) (by omega) w10 (Or.inl rfl)).mono ?_
  rintro e w12 ⟨D2, c3, rfl, hc3, hb12, hr12⟩
  rw [List.nil_append, HY.out] at hr12
  replace hY := hY.below hb12 hY.lt
  replace ht9' := ht9'.below hb12
  replace hb0 := below_next hb0 (Nat.le_refl _) hb12
  have hra : Rd w12 A y := by rw [← HYB.out]; exact (rd.below hb0).take j
  have hhead := run_head A len cap j hjl hcap
  clear d0 d1 d2 d3 d4 hb12
  go_wp2_with fail
  have hkeep : Hid (∀ w', Below w12.heap.size w12 w' → Below w12.heap.size w12 w' ∧ w'.cell? ⟨gy, 0, none⟩ = some (.string ⟨N.toArray⟩) ∧ w'.cell? ⟨gy, 1, none⟩ = some (.int .i64 O) ∧ w'.cell? ⟨gy, 2, none⟩ = some (.int .i64 K) ∧ w'.cell? ⟨gy, 3, none⟩ = some (.int .i64 I) ∧ w'.cell? ⟨gy, 4, none⟩ = some (.string ⟨Tx.toArray⟩) ∧ Sem.run Try.prog (convert 27 9 (.slice D2 j c3)) w' = .ok (.string ⟨(y).toArray⟩) w' ∧ Sem.run Try.prog (convert 27 9 (.slice A j cap)) w' = .ok (.string ⟨(y).toArray⟩) w') := fun w' h => ⟨h, (hY.below h hY.lt).cell 0, (hY.below h hY.lt).cell 1, (hY.below h hY.lt).cell 2, (hY.below h hY.lt).cell 3, (hY.below h hY.lt).cell 4, str_below c3 hr12 HJ.out h, str_below cap hra HJ.out h⟩
  have hT0 := hkeep.out w12.drew (Below.refl _ _).drew
  refine wp_region_held_drew (S := fun w' => Below w12.heap.size w12 w' ∧ w'.cell? ⟨gy, 0, none⟩ = some (.string ⟨N.toArray⟩) ∧ w'.cell? ⟨gy, 1, none⟩ = some (.int .i64 O) ∧ w'.cell? ⟨gy, 2, none⟩ = some (.int .i64 K) ∧ w'.cell? ⟨gy, 3, none⟩ = some (.int .i64 I) ∧ w'.cell? ⟨gy, 4, none⟩ = some (.string ⟨Tx.toArray⟩) ∧ Sem.run Try.prog (convert 27 9 (.slice D2 j c3)) w' = .ok (.string ⟨(y).toArray⟩) w' ∧ Sem.run Try.prog (convert 27 9 (.slice A j cap)) w' = .ok (.string ⟨(y).toArray⟩) w') (by kernel_rfl) hT0 (fun _ => ?_)
  refine wpAnyH_yes (i := 0) (d := 85) (v := ?_) rfl rfl (by kernel_rfl) (by kernel_rfl) (by kernel_rfl) (fun _ _ _ h => h) (by rfl) ?_ hT0 ?_
  rotate_left
  · intro w' hSw; go_simp <;> with_reducible rfl
  simp only [Act.put, List.setIfInBounds_toArray, List.set_cons_zero, List.set_cons_succ]
  refine wpAnyH_yes (i := 1) (d := 86) (v := ?_) rfl rfl (by kernel_rfl) (by kernel_rfl) (by kernel_rfl) (fun _ _ _ h => h) (by rfl) ?_ hT0 ?_
  rotate_left
  · intro w' hSw; go_simp <;> with_reducible rfl
  simp only [Act.put, List.setIfInBounds_toArray, List.set_cons_zero, List.set_cons_succ]
  refine wpAnyH_yes (i := 2) (d := 87) (v := ?_) rfl rfl (by kernel_rfl) (by kernel_rfl) (by kernel_rfl) (fun _ _ _ h => h) (by rfl) ?_ hT0 ?_
  rotate_left
  · intro w' hSw; go_simp <;> with_reducible rfl
  simp only [Act.put, List.setIfInBounds_toArray, List.set_cons_zero, List.set_cons_succ]
  refine wpAnyH_one (i := 3) (by kernel_rfl) rfl (by rfl) (fun Kx hK15 => ?_)
  go_simp
  with_reducible refine (pright_is N O K I Tx _ (by omega) (by omega) true HRR.out).mono ?_
  rintro e w13 ⟨rfl, hb13⟩
  have hT1 := hkeep.out w13 (below_next hT0.1 (Nat.le_refl _) hb13)
  go_wp2_with fail
  refine hK15.out _ _ hT1 ?_
  have q3 : decide (j ≤ len) = true := by simpa using hjl
  refine wpAnyH_yes (i := 4) (d := 89) (v := ?_) rfl rfl (by kernel_rfl) (by kernel_rfl) (by kernel_rfl) (fun _ _ _ h => h) (by rfl) ?_ hT1 ?_
  rotate_left
  · intro w' hSw; go_simp <;> with_reducible rfl
  simp only [Act.put, List.setIfInBounds_toArray, List.set_cons_zero, List.set_cons_succ]
  refine wpAnyH_yes (i := 5) (d := 90) (v := ?_) rfl rfl (by kernel_rfl) (by kernel_rfl) (by kernel_rfl) (fun _ _ _ h => h) (by rfl) ?_ hT1 ?_
  rotate_left
  · intro w' hSw; go_simp <;> with_reducible rfl
  simp only [Act.put, List.setIfInBounds_toArray, List.set_cons_zero, List.set_cons_succ]
  refine wpAnyH_yes (i := 6) (d := 91) (v := ?_) rfl rfl (by kernel_rfl) (by kernel_rfl) (by kernel_rfl) (fun _ _ _ h => h) (by rfl) ?_ hT1 ?_
  rotate_left
  · intro w' hSw; go_simp <;> with_reducible rfl
  simp only [Act.put, List.setIfInBounds_toArray, List.set_cons_zero, List.set_cons_succ]
  refine wpAnyH_yes (i := 7) (d := 92) (v := ?_) rfl rfl (by kernel_rfl) (by kernel_rfl) (by kernel_rfl) (fun _ _ _ h => h) (by rfl) ?_ hT1 ?_
  rotate_left
  · intro w' hSw; go_simp <;> with_reducible rfl
  simp only [Act.put, List.setIfInBounds_toArray, List.set_cons_zero, List.set_cons_succ]
  refine wpAnyH_yes (i := 8) (d := 93) (v := ?_) rfl rfl (by kernel_rfl) (by kernel_rfl) (by kernel_rfl) (fun _ _ _ h => h) (by rfl) ?_ hT1 ?_
  rotate_left
  · intro w' hSw; go_simp <;> with_reducible rfl
  simp only [Act.put, List.setIfInBounds_toArray, List.set_cons_zero, List.set_cons_succ]
  refine wpAnyH_yes (i := 9) (d := 94) (v := ?_) rfl rfl (by kernel_rfl) (by kernel_rfl) (by kernel_rfl) (fun _ _ _ h => h) (by rfl) ?_ hT1 ?_
  rotate_left
  · intro w' hSw; go_simp <;> with_reducible rfl
  simp only [Act.put, List.setIfInBounds_toArray, List.set_cons_zero, List.set_cons_succ]
  refine wpAnyH_yes (i := 10) (d := 95) (v := ?_) rfl rfl (by kernel_rfl) (by kernel_rfl) (by kernel_rfl) (fun _ _ _ h => h) (by rfl) ?_ hT1 ?_
  rotate_left
  · intro w' hSw; go_simp <;> with_reducible rfl
  simp only [Act.put, List.setIfInBounds_toArray, List.set_cons_zero, List.set_cons_succ]
  refine wpAnyH_yes (i := 11) (d := 96) (v := ?_) rfl rfl (by kernel_rfl) (by kernel_rfl) (by kernel_rfl) (fun _ _ _ h => h) (by rfl) ?_ hT1 ?_
  rotate_left
  · intro w' hSw; go_simp <;> with_reducible rfl
  simp only [Act.put, List.setIfInBounds_toArray, List.set_cons_zero, List.set_cons_succ]
  refine wpAnyH_yes (i := 12) (d := 97) (v := ?_) rfl rfl (by kernel_rfl) (by kernel_rfl) (by kernel_rfl) (fun _ _ _ h => h) (by rfl) ?_ hT1 ?_
  rotate_left
  · intro w' hSw; go_simp <;> with_reducible rfl
  simp only [Act.put, List.setIfInBounds_toArray, List.set_cons_zero, List.set_cons_succ]
  refine wpAnyH_yes (i := 13) (d := 98) (v := ?_) rfl rfl (by kernel_rfl) (by kernel_rfl) (by kernel_rfl) (fun _ _ _ h => h) (by rfl) ?_ hT1 ?_
  rotate_left
  · intro w' hSw; go_simp <;> with_reducible rfl
  simp only [Act.put, List.setIfInBounds_toArray, List.set_cons_zero, List.set_cons_succ]
  refine wpAnyH_yes (i := 14) (d := 99) (v := ?_) rfl rfl (by kernel_rfl) (by kernel_rfl) (by kernel_rfl) (fun _ _ _ h => h) (by rfl) ?_ hT1 ?_
  rotate_left
  · intro w' hSw; go_simp <;> with_reducible rfl
  simp only [Act.put, List.setIfInBounds_toArray, List.set_cons_zero, List.set_cons_succ]
  refine wpAnyH_yes (i := 15) (d := 100) (v := ?_) rfl rfl (by kernel_rfl) (by kernel_rfl) (by kernel_rfl) (fun _ _ _ h => h) (by rfl) ?_ hT1 ?_
  rotate_left
  · intro w' hSw; go_simp <;> with_reducible rfl
  simp only [Act.put, List.setIfInBounds_toArray, List.set_cons_zero, List.set_cons_succ]
  refine wpAnyH_yes (i := 16) (d := 101) (v := ?_) rfl rfl (by kernel_rfl) (by kernel_rfl) (by kernel_rfl) (fun _ _ _ h => h) (by rfl) ?_ hT1 ?_
  rotate_left
  · intro w' hSw; go_simp <;> with_reducible rfl
  simp only [Act.put, List.setIfInBounds_toArray, List.set_cons_zero, List.set_cons_succ]
  refine wpAnyH_yes (i := 17) (d := 102) (v := ?_) rfl rfl (by kernel_rfl) (by kernel_rfl) (by kernel_rfl) (fun _ _ _ h => h) (by rfl) ?_ hT1 ?_
  rotate_left
  · intro w' hSw; go_simp <;> with_reducible rfl
  simp only [Act.put, List.setIfInBounds_toArray, List.set_cons_zero, List.set_cons_succ]
  refine wpAnyH_one (i := 18) (by kernel_rfl) rfl (by rfl) (fun Kx hK16 => ?_)
  go_simp
  with_reducible refine (left_at w13 gt s' (ht9'.below hT1.1) m HM.out).mono ?_
  rintro e w14 ⟨rfl, rfl⟩
  go_wp2_with fail
  refine hK16.out _ _ hT1 ?_
  refine wpAnyH_yes (i := 19) (d := 104) (v := .int .i64 (j : Int)) rfl rfl (by kernel_rfl) (by kernel_rfl) (by kernel_rfl) (fun _ _ _ h => h) (by rfl) ?_ hT1 ?_
  · intro w' hSw
    go_simp
    have h := HJM.out
    rw [show ((len : Int) - (m : Int)) = (j : Int) by omega]
    rw [IntKind.wrap_i64]
    omega
  simp only [Act.put, List.setIfInBounds_toArray, List.set_cons_zero, List.set_cons_succ]
  refine wpAnyH_yes (i := 20) (d := 105) (v := ?_) rfl rfl (by kernel_rfl) (by kernel_rfl) (by kernel_rfl) (fun _ _ _ h => h) (by rfl) ?_ hT1 ?_
  rotate_left
  · intro w' hSw; go_simp <;> with_reducible rfl
  simp only [Act.put, List.setIfInBounds_toArray, List.set_cons_zero, List.set_cons_succ]
  refine wpAnyH_yes (i := 21) (d := 106) (v := ?_) rfl rfl (by kernel_rfl) (by kernel_rfl) (by kernel_rfl) (fun _ _ _ h => h) (by rfl) ?_ hT1 ?_
  rotate_left
  · intro w' hSw; go_simp <;> with_reducible rfl
  simp only [Act.put, List.setIfInBounds_toArray, List.set_cons_zero, List.set_cons_succ]
  refine wpAnyH_yes (i := 22) (d := 107) (v := ?_) rfl rfl (by kernel_rfl) (by kernel_rfl) (by kernel_rfl) (fun _ _ _ h => h) (by rfl) ?_ hT1 ?_
  rotate_left
  · intro w' hSw; go_simp <;> with_reducible rfl
  simp only [Act.put, List.setIfInBounds_toArray, List.set_cons_zero, List.set_cons_succ]
  refine wpAnyH_yes (i := 23) (d := 108) (v := ?_) rfl rfl (by kernel_rfl) (by kernel_rfl) (by kernel_rfl) (fun _ _ _ h => h) (by rfl) ?_ hT1 ?_
  rotate_left
  · intro w' hSw; go_simp <;> with_reducible rfl
  simp only [Act.put, List.setIfInBounds_toArray, List.set_cons_zero, List.set_cons_succ]
  refine wpAnyH_yes (i := 24) (d := 109) (v := ?_) rfl rfl (by kernel_rfl) (by kernel_rfl) (by kernel_rfl) (fun _ _ _ h => h) (by rfl) ?_ hT1 ?_
  rotate_left
  · intro w' hSw; go_simp <;> with_reducible rfl
  simp only [Act.put, List.setIfInBounds_toArray, List.set_cons_zero, List.set_cons_succ]
  refine wpAnyH_yes (i := 25) (d := 110) (v := ?_) rfl rfl (by kernel_rfl) (by kernel_rfl) (by kernel_rfl) (fun _ _ _ h => h) (by rfl) ?_ hT1 ?_
  rotate_left
  · intro w' hSw; go_simp <;> with_reducible rfl
  simp only [Act.put, List.setIfInBounds_toArray, List.set_cons_zero, List.set_cons_succ]
  refine wpAnyH_yes (i := 26) (d := 111) (v := ?_) rfl rfl (by kernel_rfl) (by kernel_rfl) (by kernel_rfl) (fun _ _ _ h => h) (by rfl) ?_ hT1 ?_
  rotate_left
  · intro w' hSw; go_simp <;> with_reducible rfl
  simp only [Act.put, List.setIfInBounds_toArray, List.set_cons_zero, List.set_cons_succ]
  refine wpAnyH_yes (i := 27) (d := 112) (v := ?_) rfl rfl (by kernel_rfl) (by kernel_rfl) (by kernel_rfl) (fun _ _ _ h => h) (by rfl) ?_ hT1 ?_
  rotate_left
  · intro w' hSw; go_simp <;> with_reducible rfl
  simp only [Act.put, List.setIfInBounds_toArray, List.set_cons_zero, List.set_cons_succ]
  refine wpAnyH_yes (i := 28) (d := 113) (v := ?_) rfl rfl (by kernel_rfl) (by kernel_rfl) (by kernel_rfl) (fun _ _ _ h => h) (by rfl) ?_ hT1 ?_
  rotate_left
  · intro w' hSw; go_simp <;> with_reducible rfl
  simp only [Act.put, List.setIfInBounds_toArray, List.set_cons_zero, List.set_cons_succ]
  refine wpAnyH_yes (i := 29) (d := 114) (v := ?_) rfl rfl (by kernel_rfl) (by kernel_rfl) (by kernel_rfl) (fun _ _ _ h => h) (by rfl) ?_ hT1 ?_
  rotate_left
  · intro w' hSw; go_simp <;> with_reducible rfl
  simp only [Act.put, List.setIfInBounds_toArray, List.set_cons_zero, List.set_cons_succ]
  refine wpAnyH_yes (i := 30) (d := 115) (v := ?_) rfl rfl (by kernel_rfl) (by kernel_rfl) (by kernel_rfl) (fun _ _ _ h => h) (by rfl) ?_ hT1 ?_
  rotate_left
  · intro w' hSw; go_simp <;> with_reducible rfl
  simp only [Act.put, List.setIfInBounds_toArray, List.set_cons_zero, List.set_cons_succ]
  refine wpAnyH_yes (i := 31) (d := 116) (v := ?_) rfl rfl (by kernel_rfl) (by kernel_rfl) (by kernel_rfl) (fun _ _ _ h => h) (by rfl) ?_ hT1 ?_
  rotate_left
  · intro w' hSw; go_simp <;> with_reducible rfl
  simp only [Act.put, List.setIfInBounds_toArray, List.set_cons_zero, List.set_cons_succ]
  refine wpAnyH_yes (i := 32) (d := 4) (v := ?_) rfl rfl (by kernel_rfl) (by kernel_rfl) (by kernel_rfl) (fun _ _ _ h => h) (by rfl) ?_ hT1 ?_
  rotate_left
  · intro w' hSw; go_simp <;> with_reducible rfl
  simp only [Act.put, List.setIfInBounds_toArray, List.set_cons_zero, List.set_cons_succ]
  refine wpAnyH_done (by kernel_rfl) ?_ _
  have hbl := below_next hb0 (Nat.le_refl _) hT1.1
  go_wp2_with fail
  go_ret
  exact ⟨rfl, hbl⟩
theorem walk_PredBack (w : World) (nm : List UInt8) (o k i : Int) (t : List UInt8) (h0 : nm.length ≤ maxLen) (_ : (Lit.int .i64 o).wf = true) (_ : (Lit.int .i64 k).wf = true) (w1 : (Lit.int .i64 i).wf = true) (h1 : t.length ≤ maxLen) (A : Option Addr) (bs : List UInt8) (len cap : Nat) (hl : bs.length = len) (hc : len ≤ cap) (hm : cap ≤ 140737488351232) (rd : Rd w A bs) :
    Calls Try.prog 5 #[.agg #[.string ⟨nm.toArray⟩, .int .i64 o, .int .i64 k, .int .i64 i, .string ⟨t.toArray⟩], .slice A len cap] w fun e w' => e = .returned (.bool true) ∧ Below w.heap.size w w' := by
  rw [maxLen_num] at h0 h1
  have b1 := bounds_i64 w1
  have hL := Preds.lay_len nm o k i t b1.1 b1.2
  by_cases hout : 300 < len ∨ 300 < nm.length ∨ 300 < t.length
  · exact back_out w nm o k i t A bs len cap hl (by omega) rd b1.1 b1.2 (by omega) (by omega) _ _ rfl rfl hL hout
  · have hp := Preds.lay_pos nm o k i t
    by_cases hz : (Preds.getS ⟨bs, 0⟩).err = 0
    · obtain ⟨j, j1, j2, j3, j4⟩ := Preds.get_ok bs hz
      have hj : (bs.take j).length = j := by rw [List.length_take]; omega
      have hrest : (Preds.getS ⟨bs, 0⟩).rest.length = len - j := by rw [j2]; simp [hl]
      have hbd : (-9223372036854775808 ≤ Preds.getI ⟨bs, 0⟩ ∧ Preds.getI ⟨bs, 0⟩ ≤ 9223372036854775807) ∧ (Preds.getN ⟨bs, 0⟩).length ≤ 16 ∧ (Preds.getT ⟨bs, 0⟩).length ≤ 32 := ⟨Preds.getI_bd bs, Preds.right_bd j3⟩
      cases hr : Preds.right nm o k i t with
      | false =>
        rw [hr] at hp
        have h00 : (Preds.lay nm o k i t).length = 0 := by
          have := of_decide_eq_false hp.symm
          omega
        exact back_fg w nm o k i t A bs len cap hl (by omega) rd b1.1 b1.2 (by omega) (by omega) _ _ rfl rfl hL hr h00 _ _ _ _ _ _ rfl rfl rfl rfl rfl rfl hz j (len - j) _ (by omega) rfl hj hrest (by omega) j3 j4 hbd hc
      | true =>
        rw [hr] at hp
        have h00 : 0 < (Preds.lay nm o k i t).length := of_decide_eq_true hp.symm
        have hg := Preds.get_lay nm o k i t [] hr b1.1 b1.2
        rw [List.append_nil] at hg
        exact back_rg w nm o k i t A bs len cap hl (by omega) rd b1.1 b1.2 (by omega) (by omega) _ _ rfl rfl hL hr h00 hg _ _ _ _ _ _ rfl rfl rfl rfl rfl rfl hz j (len - j) _ (by omega) rfl hj hrest (by omega) j3 j4 hbd hc
    · obtain ⟨n1, n2, n3, n4, n5⟩ := Preds.get_bad ⟨bs, 0⟩ hz
      cases hr : Preds.right nm o k i t with
      | false =>
        rw [hr] at hp
        have h00 : (Preds.lay nm o k i t).length = 0 := by
          have := of_decide_eq_false hp.symm
          omega
        exact back_fb w nm o k i t A bs len cap hl (by omega) rd b1.1 b1.2 (by omega) (by omega) _ _ rfl rfl hL hr h00 _ _ _ _ _ _ rfl rfl rfl rfl rfl rfl _ rfl hz n1 n2 n3 n4 n5
      | true =>
        rw [hr] at hp
        have h00 : 0 < (Preds.lay nm o k i t).length := of_decide_eq_true hp.symm
        have hg := Preds.get_lay nm o k i t [] hr b1.1 b1.2
        rw [List.append_nil] at hg
        exact back_rb w nm o k i t A bs len cap hl (by omega) rd b1.1 b1.2 (by omega) (by omega) _ _ rfl rfl hL hr h00 hg _ _ _ _ _ _ rfl rfl rfl rfl rfl rfl _ rfl hz n1 n2 n3 n4 n5

/-! ### The row's step. -/
namespace predBack
theorem own : ownKnob Try.prog.godebug = none := by kernel_rfl
theorem laidOut : laidOutB Try.prog = true := by kernel_rfl
set_option linter.unusedVariables false in
set_option maxRecDepth 100000 in
theorem lifted (os : Os) (started : os.Started) (H : Type) (enc : TypeId × Value → H) :
    ReturnsInHanded {} Try.checked os 5 .any (Rows.predBackSpec.pre6 enc Try.prog Try.f5 Rows.predBackRow.domain false) (Rows.predBackSpec.post enc Try.prog Try.f5 false true false false) := by
  refine returnsInHanded_of_change_sized (C := Try.checked) own started (by kernel_rfl) Try.func5
    (ChangeSpec.witness6 (enc := enc) (C := Try.checked) false ⟨#[], #[.agg #[.string ⟨#[]⟩, .int .i64 0, .int .i64 0, .int .i64 0, .string ⟨#[]⟩], .slice none 0 0], []⟩ 8 (by kernel_rfl) (by kernel_rfl) (by kernel_rfl) (by kernel_rfl)) ?_
  intro W base args ds gs before hval0 hW hcnd hsz0 _
  have hval : ∀ (j : Nat) t v, Try.f5.params[j]? = some t → args[j]? = some v → Value.okWide Try.prog W .any base t v := hval0
  have hsz : (DataW.weightsEach Try.prog (Try.f5.params.toList ++ Rows.predBackSpec.plain.varTypes Try.prog) (ds ++ gs)).all (· ≤ reachBytes) = true := hsz0
  have hW' := hW
  obtain ⟨p, q, hA0, hV, rfl, hfz, hnd⟩ := hW
  have hA : DataW.TrodAll enc Try.prog W 0 (fun _ => true) true Try.f5.params.toList args.toList ds p := hA0
  rw [Try.params5] at hA hval hsz
  obtain ⟨v0, vs0, d0, ds0, p0, q0, hargs, rfl, rfl, h0, r0⟩ := trodAll_cons hA
  obtain ⟨v1, vs1, d1, ds1, p1, q1, rfl, rfl, rfl, h1, r1⟩ := trodAll_cons r0
  obtain ⟨rfl, rfl, rfl⟩ := trodAll_nil r1
  obtain rfl : args = #[v0, v1] := by cases args; simp_all
  obtain ⟨rfl, rfl⟩ := trodVars_none hV
  obtain ⟨nn0, oo0, kk0, ii0, ss0, rfl, wn0, wo0, wk0, wi0, ws0⟩ := open_pred_of Try.underlying25 (by kernel_rfl) ⟨rfl, rfl, by kernel_rfl⟩ ⟨rfl, rfl, by kernel_rfl⟩ ⟨rfl, rfl, by kernel_rfl⟩ Try.underlying9 Try.underlying3 Try.underlying23 ⟨rfl, rfl, by kernel_rfl⟩ ⟨rfl, rfl, by kernel_rfl⟩ ⟨rfl, rfl, by kernel_rfl⟩ Try.underlying3 Try.underlying3 Try.underlying9 (hval 0 25 v0 rfl rfl) h0
  have k0 := h0
  have lt0 : ∀ x ∈ p0, x.block < W.heap.size := by obtain ⟨m, hm⟩ := k0; exact DataW.trod_lt m _ _ _ hm
  obtain ⟨a1, len1, cap1, rfl⟩ := okWide_slice Try.underlying27 (hval 1 27 v1 rfl rfl)
  have k1 := h1
  have lt1 : ∀ x ∈ p1, x.block < W.heap.size := by obtain ⟨m, hm⟩ := k1; exact DataW.trod_lt m _ _ _ hm
  obtain ⟨bs1, hl1, hc1, hm1, rd1⟩ : ∃ bs : List UInt8, bs.length = len1 ∧ len1 ≤ cap1 ∧ cap1 ≤ 140737488351232 ∧ Rd W a1 bs := by
    obtain ⟨fuel, hf⟩ := h1
    rcases open_ints Try.underlying27 Try.underlying5 (by kernel_rfl) hf with ⟨hcs, _⟩ | ⟨x, l, c, zs, hcs, _, hl, hm, hz, hx, hcell, hwz⟩
    · simp [Value.cells] at hcs
      obtain ⟨rfl, rfl, rfl⟩ := hcs
      exact ⟨[], rfl, by omega, by omega, .inl rfl⟩
    · simp [Value.cells] at hcs
      obtain ⟨rfl, rfl, rfl⟩ := hcs
      have hz' : zs.length = cap1 := by simpa using hz
      have hd : d1 = .slice (lits .u8 (zs.take len1)) (lits .u8 (zs.drop len1)) := congrArg Prod.fst hx
      have hb := sized_slice hsz (j := 1) (t := 27) (elems := lits .u8 (zs.take len1)) (spare := lits .u8 (zs.drop len1)) rfl (by rw [hd]; rfl) Try.underlying27
      have hb' : cap1 ≤ 140737488351232 := by
        rw [show Try.prog.bytesOf 5 = 1 from by kernel_rfl] at hb
        simp [lits, reachBytes] at hb; omega
      obtain ⟨bs, e1, e2⟩ := rd_of_ints hl hz' hcell hwz
      exact ⟨bs, e1, hl, hb', e2⟩
  clear hA0 hval0
  refine (walk_PredBack W nn0 oo0 kk0 ii0 ss0 wn0 wo0 wk0 wi0 ws0 a1 bs1 len1 cap1 hl1 hc1 hm1 rd1).mono fun e W' ⟨he, bel⟩ => ?_
  subst he
  exact ⟨_, rfl, _, _, _, [], _, [], hW', trodAll_mk1 (shut_bool Try.underlying4 _), (trodAll_cons_mk (Below.trod laidOut (by kernel_rfl) (of_decide_eq_true (by kernel_rfl)) k0 bel lt0) (trodAll_cons_mk (Below.trod laidOut (by kernel_rfl) (of_decide_eq_true (by kernel_rfl)) k1 bel lt1) trodAll_mk0)), rfl, bel.frame _, fun h => by cases h⟩
theorem over : Rows.predBackRow.holds Try.pinned (OpenSpec.ofChange Rows.predBackSpec) :=
  OpenClaim.holds_of_wide 5 Try.f5 rfl rfl rfl rfl rfl rfl rfl ⟨rfl, rfl, rfl, rfl, rfl⟩ rfl rfl rfl rfl rfl (by kernel_rfl) Try.func5 (by kernel_rfl)
    (of_decide_eq_true (by kernel_rfl)) (by unfold Func.isWrapper; first | (rw [if_pos (by decide +kernel)]; kernel_rfl) | (rw [if_neg (by decide +kernel)]; exact ⟨rfl, rfl⟩))
    (fun os started H enc _ => lifted os started H enc)
end predBack
/-- THE STATEMENT. -/
theorem predBack_holds : Rows.PredBackSaid := predBack.over
#print axioms predBack_holds
end Go.Proofs.Ytcmjekchfgnbdaa
