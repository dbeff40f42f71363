/-
  Of a value of the kind that is asked just one of each pair holds (equal or not, less or not less, greater or not greater), and of another kind none: for every name and any two values the call of the law answers true, and all arguments read behind it as they read before. No condition.
-/
import Derived.Test.YtcmjekchfgnbdaaPSml
import Derived.Test.YtcmjekchfgnbdaaPArgs
namespace Go.Proofs.Ytcmjekchfgnbdaa
open Go.RowKit Go.ChangeShapes Go.WideShapes Go.ChangeAt
set_option maxRecDepth 100000 in
set_option maxHeartbeats 3200000 in
theorem turns_out (w : World) (nm : List UInt8) (kw iw : Int) (tw : List UInt8) (kv iv : Int) (tv : List UInt8) (hn : nm.length ≤ 9223372036854775807) (hlw : tw.length ≤ 9223372036854775807) (hlv : tv.length ≤ 9223372036854775807) (h : nm.length < 1 ∨ 16 < nm.length ∨ 64 < tv.length ∨ 32 < tw.length) :
    Calls Try.prog 6 #[.string ⟨nm.toArray⟩, .agg #[.int .i64 kw, .int .i64 iw, .string ⟨tw.toArray⟩], .agg #[.int .i64 kv, .int .i64 iv, .string ⟨tv.toArray⟩]] w fun e w' => e = .returned (.bool true) ∧ Below w.heap.size w w' := by
  obtain ⟨hW, hV, hb0⟩ := box3x2 w 23 (.int .i64 kw) (.int .i64 iw) (.string ⟨tw.toArray⟩) (.int .i64 kv) (.int .i64 iv) (.string ⟨tv.toArray⟩)
  go_enter Try.func6, Try.ntmps6
  go_wp2_with fail
  generalize (w.alloc (.cells #[.int .i64 kw, .int .i64 iw, .string ⟨tw.toArray⟩] 23)).alloc (.cells #[.int .i64 kv, .int .i64 iv, .string ⟨tv.toArray⟩] 23) = w0 at *
  refine (small_any w0).mono ?_
  rintro e w1 ⟨rfl, hb1⟩
  replace hW := hW.below hb1 hW.lt
  replace hV := hV.below hb1 hV.lt
  have hbw := below_next hb0 (Nat.le_refl _) hb1
  clear hb0 hb1
  obtain ⟨c0, c1, c2, _, _, _⟩ := blk3 hW
  obtain ⟨d0, d1, d2, _, _, _⟩ := blk3 hV
  by_cases a1 : nm.length < 1
  · have q1 : decide ((nm.length : Int) < 1) = true := by simp; omega
    clear h a1
    go_wp2_with fail
    go_ret
    exact ⟨rfl, hbw⟩
  · have q1 : decide ((nm.length : Int) < 1) = false := by simp; omega
    by_cases a2 : 16 < nm.length
    · have q2 : decide ((16 : Int) < (nm.length : Int)) = true := by simp; omega
      clear h a1 a2
      go_wp2_with fail
      go_ret
      exact ⟨rfl, hbw⟩
    · have q2 : decide ((16 : Int) < (nm.length : Int)) = false := by simp; omega
      by_cases a3 : 64 < tv.length
      · have q3 : decide ((64 : Int) < (tv.length : Int)) = true := by simp; omega
        clear h a1 a2 a3
        go_wp2_with fail
        go_ret
        exact ⟨rfl, hbw⟩
      · have q3 : decide ((64 : Int) < (tv.length : Int)) = false := by simp; omega
        have q4 : decide ((32 : Int) < (tw.length : Int)) = true := by simp; omega
        clear h a1 a2 a3
        go_wp2_with fail
        go_ret
        exact ⟨rfl, hbw⟩
set_option maxRecDepth 100000 in
set_option maxHeartbeats 3200000 in
theorem turns_v (w : World) (nm : List UInt8) (kw iw : Int) (tw : List UInt8) (kv iv : Int) (tv : List UInt8) (hn : nm.length ≤ 9223372036854775807) (hlw : tw.length ≤ 9223372036854775807) (hlv : tv.length ≤ 9223372036854775807) (h1 : 1 ≤ nm.length) (h2 : nm.length ≤ 16) (h3 : tv.length ≤ 64) (h4 : tw.length ≤ 32) (hr : Vals.right kv iv tv = false) :
    Calls Try.prog 6 #[.string ⟨nm.toArray⟩, .agg #[.int .i64 kw, .int .i64 iw, .string ⟨tw.toArray⟩], .agg #[.int .i64 kv, .int .i64 iv, .string ⟨tv.toArray⟩]] w fun e w' => e = .returned (.bool true) ∧ Below w.heap.size w w' := by
  have q1 : decide ((nm.length : Int) < 1) = false := by simp; omega
  have q2 : decide ((16 : Int) < (nm.length : Int)) = false := by simp; omega
  have q3 : decide ((64 : Int) < (tv.length : Int)) = false := by simp; omega
  have q4 : decide ((32 : Int) < (tw.length : Int)) = false := by simp; omega
  have HR := Lib.hid hr
  clear hr h1
  obtain ⟨hW, hV, hb0⟩ := box3x2 w 23 (.int .i64 kw) (.int .i64 iw) (.string ⟨tw.toArray⟩) (.int .i64 kv) (.int .i64 iv) (.string ⟨tv.toArray⟩)
  go_enter Try.func6, Try.ntmps6
  go_wp2_with fail
  generalize (w.alloc (.cells #[.int .i64 kw, .int .i64 iw, .string ⟨tw.toArray⟩] 23)).alloc (.cells #[.int .i64 kv, .int .i64 iv, .string ⟨tv.toArray⟩] 23) = w0 at *
  refine (small_any w0).mono ?_
  rintro e w1 ⟨rfl, hb1⟩
  replace hW := hW.below hb1 hW.lt
  replace hV := hV.below hb1 hV.lt
  have hbw := below_next hb0 (Nat.le_refl _) hb1
  clear hb0 hb1
  obtain ⟨c0, c1, c2, _, _, _⟩ := blk3 hW
  obtain ⟨d0, d1, d2, _, _, _⟩ := blk3 hV
  go_wp2_with fail
  refine (right_is kv iv tv w1 hlv false HR.out).mono ?_
  rintro e w2 ⟨rfl, hb2⟩
  replace hbw := below_next hbw (Nat.le_refl _) hb2
  clear hb2 c0 c1 c2 d0 d1 d2
  go_wp2_with fail
  go_ret
  exact ⟨rfl, hbw⟩
set_option maxRecDepth 100000 in
set_option maxHeartbeats 3200000 in
theorem turns_w (w : World) (nm : List UInt8) (kw iw : Int) (tw : List UInt8) (kv iv : Int) (tv : List UInt8) (hn : nm.length ≤ 9223372036854775807) (hlw : tw.length ≤ 9223372036854775807) (hlv : tv.length ≤ 9223372036854775807) (h1 : 1 ≤ nm.length) (h2 : nm.length ≤ 16) (h3 : tv.length ≤ 64) (h4 : tw.length ≤ 32) (hrv : Vals.right kv iv tv = true) (hrw : Vals.right kw iw tw = false) :
    Calls Try.prog 6 #[.string ⟨nm.toArray⟩, .agg #[.int .i64 kw, .int .i64 iw, .string ⟨tw.toArray⟩], .agg #[.int .i64 kv, .int .i64 iv, .string ⟨tv.toArray⟩]] w fun e w' => e = .returned (.bool true) ∧ Below w.heap.size w w' := by
  have q1 : decide ((nm.length : Int) < 1) = false := by simp; omega
  have q2 : decide ((16 : Int) < (nm.length : Int)) = false := by simp; omega
  have q3 : decide ((64 : Int) < (tv.length : Int)) = false := by simp; omega
  have q4 : decide ((32 : Int) < (tw.length : Int)) = false := by simp; omega
  have HRV := Lib.hid hrv
  have HRW := Lib.hid hrw
  clear hrv hrw h1
  obtain ⟨hW, hV, hb0⟩ := box3x2 w 23 (.int .i64 kw) (.int .i64 iw) (.string ⟨tw.toArray⟩) (.int .i64 kv) (.int .i64 iv) (.string ⟨tv.toArray⟩)
  go_enter Try.func6, Try.ntmps6
  go_wp2_with fail
  generalize (w.alloc (.cells #[.int .i64 kw, .int .i64 iw, .string ⟨tw.toArray⟩] 23)).alloc (.cells #[.int .i64 kv, .int .i64 iv, .string ⟨tv.toArray⟩] 23) = w0 at *
  refine (small_any w0).mono ?_
  rintro e w1 ⟨rfl, hb1⟩
  replace hW := hW.below hb1 hW.lt
  replace hV := hV.below hb1 hV.lt
  have hbw := below_next hb0 (Nat.le_refl _) hb1
  clear hb0 hb1
  obtain ⟨c0, c1, c2, _, _, _⟩ := blk3 hW
  obtain ⟨d0, d1, d2, _, _, _⟩ := blk3 hV
  go_wp2_with fail
  refine (right_is kv iv tv w1 (by omega) true HRV.out).mono ?_
  rintro e w2 ⟨rfl, hb2⟩
  replace hW := hW.below hb2 hW.lt
  replace hV := hV.below hb2 hV.lt
  replace hbw := below_next hbw (Nat.le_refl _) hb2
  clear hb2 c0 c1 c2 d0 d1 d2
  obtain ⟨c0, c1, c2, _, _, _⟩ := blk3 hW
  go_wp2_with fail
  refine (right_is kw iw tw w2 (by omega) false HRW.out).mono ?_
  rintro e w3 ⟨rfl, hb2⟩
  replace hW := hW.below hb2 hW.lt
  replace hV := hV.below hb2 hV.lt
  replace hbw := below_next hbw (Nat.le_refl _) hb2
  clear hb2 c0 c1 c2
  go_wp2_with fail
  go_ret
  exact ⟨rfl, hbw⟩
/-- The row of answers, as the loop fills it. -/
def rowQ (b1 b2 b3 b4 b5 b6 : Bool) (q : Nat) : Array Value :=
  #[.bool false, .bool (decide (1 < q) && b1), .bool (decide (2 < q) && b2), .bool (decide (3 < q) && b3), .bool (decide (4 < q) && b4), .bool (decide (5 < q) && b5), .bool (decide (6 < q) && b6), .bool false, .bool false]
set_option maxRecDepth 100000 in
set_option maxHeartbeats 3200000 in
theorem turns_kind (w : World) (nm : List UInt8) (iv iw kv kw : Int) (tv tw : List UInt8) (h1 : 1 ≤ nm.length) (h2 : nm.length ≤ 16) (h3 : tv.length ≤ 64) (h4 : tw.length ≤ 32) (hrv : Vals.right kv iv tv = true) (hrw : Vals.right kw iw tw = true) (hk : kv ≠ kw) (H1 : Preds.holds nm 1 kw iw tw kv iv tv = false) (H2 : Preds.holds nm 2 kw iw tw kv iv tv = false) (H3 : Preds.holds nm 3 kw iw tw kv iv tv = false) (H4 : Preds.holds nm 4 kw iw tw kv iv tv = false) (H5 : Preds.holds nm 5 kw iw tw kv iv tv = false) (H6 : Preds.holds nm 6 kw iw tw kv iv tv = false) :
    Calls Try.prog 6 #[.string ⟨nm.toArray⟩, .agg #[.int .i64 kw, .int .i64 iw, .string ⟨tw.toArray⟩], .agg #[.int .i64 kv, .int .i64 iv, .string ⟨tv.toArray⟩]] w fun e w' => e = .returned (.bool true) ∧ Below w.heap.size w w' := by
  have q1 : decide ((nm.length : Int) < 1) = false := by simp; omega
  have q2 : decide ((16 : Int) < (nm.length : Int)) = false := by simp; omega
  have q3 : decide ((64 : Int) < (tv.length : Int)) = false := by simp; omega
  have q4 : decide ((32 : Int) < (tw.length : Int)) = false := by simp; omega
  have ek : (kv != kw) = true := by simpa using hk
  clear hk
  have HRV := Lib.hid hrv
  have HRW := Lib.hid hrw
  have HH1 := Lib.hid H1
  have HH2 := Lib.hid H2
  have HH3 := Lib.hid H3
  have HH4 := Lib.hid H4
  have HH5 := Lib.hid H5
  have HH6 := Lib.hid H6
  clear hrv hrw h1 H1 H2 H3 H4 H5 H6
  obtain ⟨hW, hV, hb0⟩ := box3x2 w 23 (.int .i64 kw) (.int .i64 iw) (.string ⟨tw.toArray⟩) (.int .i64 kv) (.int .i64 iv) (.string ⟨tv.toArray⟩)
  go_enter Try.func6, Try.ntmps6
  go_wp2_with fail
  generalize (w.alloc (.cells #[.int .i64 kw, .int .i64 iw, .string ⟨tw.toArray⟩] 23)).alloc (.cells #[.int .i64 kv, .int .i64 iv, .string ⟨tv.toArray⟩] 23) = w0 at *
  refine (small_any w0).mono ?_
  rintro e w1 ⟨rfl, hb1⟩
  replace hW := hW.below hb1 hW.lt
  replace hV := hV.below hb1 hV.lt
  have hbw := below_next hb0 (Nat.le_refl _) hb1
  clear hb0 hb1
  obtain ⟨c0, c1, c2, _, _, _⟩ := blk3 hW
  obtain ⟨d0, d1, d2, _, _, _⟩ := blk3 hV
  go_wp2_with fail
  refine (right_is kv iv tv w1 (by omega) true HRV.out).mono ?_
  rintro e w2 ⟨rfl, hb2⟩
  replace hW := hW.below hb2 hW.lt
  replace hV := hV.below hb2 hV.lt
  replace hbw := below_next hbw (Nat.le_refl _) hb2
  clear hb2 c0 c1 c2 d0 d1 d2
  obtain ⟨c0, c1, c2, _, _, _⟩ := blk3 hW
  go_wp2_with fail
  refine (right_is kw iw tw w2 (by omega) true HRW.out).mono ?_
  rintro e w3 ⟨rfl, hb2⟩
  replace hW := hW.below hb2 hW.lt
  replace hV := hV.below hb2 hV.lt
  replace hbw := below_next hbw (Nat.le_refl _) hb2
  clear hb2 c0 c1 c2
  clear q1 q2 q3 q4
  go_wp2_with fail
  have hA : Blk (w3.alloc (.cells #[.bool false, .bool false, .bool false, .bool false, .bool false, .bool false, .bool false, .bool false, .bool false] 48)) w3.heap.size 48 (rowQ false false false false false false 1) := Blk.new w3 _ _
  have hb4 : Below w3.heap.size w3 (w3.alloc (.cells #[.bool false, .bool false, .bool false, .bool false, .bool false, .bool false, .bool false, .bool false, .bool false] 48)) := (Below.refl _ _).alloc (Nat.le_refl _) _
  have hgl : w.heap.size + 1 < w3.heap.size := hV.lt
  replace hW := hW.below hb4 hW.lt
  replace hV := hV.below hb4 hV.lt
  replace hbw := below_next hbw (Nat.le_refl _) hb4
  clear hb4
  generalize w3.heap.size = ga at *
  generalize w3.alloc (.cells #[.bool false, .bool false, .bool false, .bool false, .bool false, .bool false, .bool false, .bool false, .bool false] 48) = w4 at *
  go_loopw [9] (fun x wr => ∃ q : Nat, 1 ≤ q ∧ q ≤ 7 ∧ x = .int .i64 (q : Int) ∧ Hid (Below w.heap.size w wr) ∧ Hid (Blk wr w.heap.size 23 #[.int .i64 kw, .int .i64 iw, .string ⟨tw.toArray⟩]) ∧ Hid (Blk wr (w.heap.size + 1) 23 #[.int .i64 kv, .int .i64 iv, .string ⟨tv.toArray⟩]) ∧ Hid (Blk wr ga 48 (rowQ false false false false false false q))) (fun x _ => 7 - (intOf x).toNat)
  case atStart => exact ⟨1, by omega, by omega, rfl, hbw, hW, hV, hA⟩
  case round =>
    clear hbw hW hV hA
    obtain ⟨q, hq1, hq2, rfl, HB, HW, HV, HA⟩ := hrel
    obtain ⟨c0, c1, c2, _, _, _⟩ := blk3 HW.out
    obtain ⟨d0, d1, d2, _, _, _⟩ := blk3 HV.out
    have h7 : q = 1 ∨ q = 2 ∨ q = 3 ∨ q = 4 ∨ q = 5 ∨ q = 6 ∨ q = 7 := by omega
    clear hq1 hq2
    rcases h7 with rfl | rfl | rfl | rfl | rfl | rfl | rfl
    · go_wp2_with fail
      refine (holds_is nm 1 kw iw tw kv iv tv wr (by omega) (by omega) (by omega) false HH1.out).mono ?_
      rintro e w5 ⟨rfl, hb5⟩
      have hA5 := HA.out.below hb5 HA.out.lt
      have hW5 := HW.out.below hb5 HW.out.lt
      have hV5 := HV.out.below hb5 HV.out.lt
      have hb5w := below_next HB.out (Nat.le_refl _) hb5
      have cz : w5.cell? ⟨ga, 1, none⟩ = some (.bool false) := hA5.cell 1
      have fz := hA5.frozen 1
      have hA6 : Hid (Blk (w5.setCell ⟨ga, 1, none⟩ (.bool false)) ga 48 (rowQ false false false false false false 2)) := hA5.put 1 (.bool false)
      have hW6 := Lib.hid (hW5.far (p := ⟨ga, 1, none⟩) (by show w.heap.size ≠ ga; omega) (.bool false))
      have hV6 := Lib.hid (hV5.far (p := ⟨ga, 1, none⟩) (by show w.heap.size + 1 ≠ ga; omega) (.bool false))
      have hb6 := Lib.hid (hb5w.setCell (p := ⟨ga, 1, none⟩) (by show w.heap.size ≤ ga; omega) (.bool false))
      clear HA HW HV HB hA5 hW5 hV5 hb5 hb5w c0 c1 c2 d0 d1 d2
      go_wp2_with fail
      go_roundw
      case rel => exact ⟨2, by omega, by omega, by first | rfl | go_num, hb6, hW6, hV6, hA6⟩
      case measure => simp [intOf]
    · go_wp2_with fail
      refine (holds_is nm 2 kw iw tw kv iv tv wr (by omega) (by omega) (by omega) false HH2.out).mono ?_
      rintro e w5 ⟨rfl, hb5⟩
      have hA5 := HA.out.below hb5 HA.out.lt
      have hW5 := HW.out.below hb5 HW.out.lt
      have hV5 := HV.out.below hb5 HV.out.lt
      have hb5w := below_next HB.out (Nat.le_refl _) hb5
      have cz : w5.cell? ⟨ga, 2, none⟩ = some (.bool false) := hA5.cell 2
      have fz := hA5.frozen 2
      have hA6 : Hid (Blk (w5.setCell ⟨ga, 2, none⟩ (.bool false)) ga 48 (rowQ false false false false false false 3)) := hA5.put 2 (.bool false)
      have hW6 := Lib.hid (hW5.far (p := ⟨ga, 2, none⟩) (by show w.heap.size ≠ ga; omega) (.bool false))
      have hV6 := Lib.hid (hV5.far (p := ⟨ga, 2, none⟩) (by show w.heap.size + 1 ≠ ga; omega) (.bool false))
      have hb6 := Lib.hid (hb5w.setCell (p := ⟨ga, 2, none⟩) (by show w.heap.size ≤ ga; omega) (.bool false))
      clear HA HW HV HB hA5 hW5 hV5 hb5 hb5w c0 c1 c2 d0 d1 d2
      go_wp2_with fail
      go_roundw
      case rel => exact ⟨3, by omega, by omega, by first | rfl | go_num, hb6, hW6, hV6, hA6⟩
      case measure => simp [intOf]
    · go_wp2_with fail
      refine (holds_is nm 3 kw iw tw kv iv tv wr (by omega) (by omega) (by omega) false HH3.out).mono ?_
      rintro e w5 ⟨rfl, hb5⟩
      have hA5 := HA.out.below hb5 HA.out.lt
      have hW5 := HW.out.below hb5 HW.out.lt
      have hV5 := HV.out.below hb5 HV.out.lt
      have hb5w := below_next HB.out (Nat.le_refl _) hb5
      have cz : w5.cell? ⟨ga, 3, none⟩ = some (.bool false) := hA5.cell 3
      have fz := hA5.frozen 3
      have hA6 : Hid (Blk (w5.setCell ⟨ga, 3, none⟩ (.bool false)) ga 48 (rowQ false false false false false false 4)) := hA5.put 3 (.bool false)
      have hW6 := Lib.hid (hW5.far (p := ⟨ga, 3, none⟩) (by show w.heap.size ≠ ga; omega) (.bool false))
      have hV6 := Lib.hid (hV5.far (p := ⟨ga, 3, none⟩) (by show w.heap.size + 1 ≠ ga; omega) (.bool false))
      have hb6 := Lib.hid (hb5w.setCell (p := ⟨ga, 3, none⟩) (by show w.heap.size ≤ ga; omega) (.bool false))
      clear HA HW HV HB hA5 hW5 hV5 hb5 hb5w c0 c1 c2 d0 d1 d2
      go_wp2_with fail
      go_roundw
      case rel => exact ⟨4, by omega, by omega, by first | rfl | go_num, hb6, hW6, hV6, hA6⟩
      case measure => simp [intOf]
    · go_wp2_with fail
      refine (holds_is nm 4 kw iw tw kv iv tv wr (by omega) (by omega) (by omega) false HH4.out).mono ?_
      rintro e w5 ⟨rfl, hb5⟩
      have hA5 := HA.out.below hb5 HA.out.lt
      have hW5 := HW.out.below hb5 HW.out.lt
      have hV5 := HV.out.below hb5 HV.out.lt
      have hb5w := below_next HB.out (Nat.le_refl _) hb5
      have cz : w5.cell? ⟨ga, 4, none⟩ = some (.bool false) := hA5.cell 4
      have fz := hA5.frozen 4
      have hA6 : Hid (Blk (w5.setCell ⟨ga, 4, none⟩ (.bool false)) ga 48 (rowQ false false false false false false 5)) := hA5.put 4 (.bool false)
      have hW6 := Lib.hid (hW5.far (p := ⟨ga, 4, none⟩) (by show w.heap.size ≠ ga; omega) (.bool false))
      have hV6 := Lib.hid (hV5.far (p := ⟨ga, 4, none⟩) (by show w.heap.size + 1 ≠ ga; omega) (.bool false))
      have hb6 := Lib.hid (hb5w.setCell (p := ⟨ga, 4, none⟩) (by show w.heap.size ≤ ga; omega) (.bool false))
      clear HA HW HV HB hA5 hW5 hV5 hb5 hb5w c0 c1 c2 d0 d1 d2
      go_wp2_with fail
      go_roundw
      case rel => exact ⟨5, by omega, by omega, by first | rfl | go_num, hb6, hW6, hV6, hA6⟩
      case measure => simp [intOf]
    · go_wp2_with fail
      refine (holds_is nm 5 kw iw tw kv iv tv wr (by omega) (by omega) (by omega) false HH5.out).mono ?_
      rintro e w5 ⟨rfl, hb5⟩
      have hA5 := HA.out.below hb5 HA.out.lt
      have hW5 := HW.out.below hb5 HW.out.lt
      have hV5 := HV.out.below hb5 HV.out.lt
      have hb5w := below_next HB.out (Nat.le_refl _) hb5
      have cz : w5.cell? ⟨ga, 5, none⟩ = some (.bool false) := hA5.cell 5
      have fz := hA5.frozen 5
      have hA6 : Hid (Blk (w5.setCell ⟨ga, 5, none⟩ (.bool false)) ga 48 (rowQ false false false false false false 6)) := hA5.put 5 (.bool false)
      have hW6 := Lib.hid (hW5.far (p := ⟨ga, 5, none⟩) (by show w.heap.size ≠ ga; omega) (.bool false))
      have hV6 := Lib.hid (hV5.far (p := ⟨ga, 5, none⟩) (by show w.heap.size + 1 ≠ ga; omega) (.bool false))
      have hb6 := Lib.hid (hb5w.setCell (p := ⟨ga, 5, none⟩) (by show w.heap.size ≤ ga; omega) (.bool false))
      clear HA HW HV HB hA5 hW5 hV5 hb5 hb5w c0 c1 c2 d0 d1 d2
      go_wp2_with fail
      go_roundw
      case rel => exact ⟨6, by omega, by omega, by first | rfl | go_num, hb6, hW6, hV6, hA6⟩
      case measure => simp [intOf]
    · go_wp2_with fail
      refine (holds_is nm 6 kw iw tw kv iv tv wr (by omega) (by omega) (by omega) false HH6.out).mono ?_
      rintro e w5 ⟨rfl, hb5⟩
      have hA5 := HA.out.below hb5 HA.out.lt
      have hW5 := HW.out.below hb5 HW.out.lt
      have hV5 := HV.out.below hb5 HV.out.lt
      have hb5w := below_next HB.out (Nat.le_refl _) hb5
      have cz : w5.cell? ⟨ga, 6, none⟩ = some (.bool false) := hA5.cell 6
      have fz := hA5.frozen 6
      have hA6 : Hid (Blk (w5.setCell ⟨ga, 6, none⟩ (.bool false)) ga 48 (rowQ false false false false false false 7)) := hA5.put 6 (.bool false)
      have hW6 := Lib.hid (hW5.far (p := ⟨ga, 6, none⟩) (by show w.heap.size ≠ ga; omega) (.bool false))
      have hV6 := Lib.hid (hV5.far (p := ⟨ga, 6, none⟩) (by show w.heap.size + 1 ≠ ga; omega) (.bool false))
      have hb6 := Lib.hid (hb5w.setCell (p := ⟨ga, 6, none⟩) (by show w.heap.size ≤ ga; omega) (.bool false))
      clear HA HW HV HB hA5 hW5 hV5 hb5 hb5w c0 c1 c2 d0 d1 d2
      go_wp2_with fail
      go_roundw
      case rel => exact ⟨7, by omega, by omega, by first | rfl | go_num, hb6, hW6, hV6, hA6⟩
      case measure => simp [intOf]
    · have hbn := HB
      have z1 : wr.cell? ⟨ga, 1, none⟩ = some (.bool false) := HA.out.cell 1
      have z2 : wr.cell? ⟨ga, 2, none⟩ = some (.bool false) := HA.out.cell 2
      have z3 : wr.cell? ⟨ga, 3, none⟩ = some (.bool false) := HA.out.cell 3
      have z4 : wr.cell? ⟨ga, 4, none⟩ = some (.bool false) := HA.out.cell 4
      have z5 : wr.cell? ⟨ga, 5, none⟩ = some (.bool false) := HA.out.cell 5
      have z6 : wr.cell? ⟨ga, 6, none⟩ = some (.bool false) := HA.out.cell 6
      clear HA HW HV HB
      go_wp2_with fail
      go_ret
      exact ⟨rfl, hbn.out⟩
set_option maxRecDepth 100000 in
set_option maxHeartbeats 3200000 in
theorem turns_same (w : World) (nm : List UInt8) (iw kw : Int) (tw : List UInt8) (h1 : 1 ≤ nm.length) (h2 : nm.length ≤ 16) (h3 : tw.length ≤ 64) (h4 : tw.length ≤ 32) (hrv : Vals.right kw iw tw = true) (hrw : Vals.right kw iw tw = true)  (H1 : Preds.holds nm 1 kw iw tw kw iw tw = true) (H2 : Preds.holds nm 2 kw iw tw kw iw tw = false) (H3 : Preds.holds nm 3 kw iw tw kw iw tw = false) (H4 : Preds.holds nm 4 kw iw tw kw iw tw = true) (H5 : Preds.holds nm 5 kw iw tw kw iw tw = false) (H6 : Preds.holds nm 6 kw iw tw kw iw tw = true) :
    Calls Try.prog 6 #[.string ⟨nm.toArray⟩, .agg #[.int .i64 kw, .int .i64 iw, .string ⟨tw.toArray⟩], .agg #[.int .i64 kw, .int .i64 iw, .string ⟨tw.toArray⟩]] w fun e w' => e = .returned (.bool true) ∧ Below w.heap.size w w' := by
  have q1 : decide ((nm.length : Int) < 1) = false := by simp; omega
  have q2 : decide ((16 : Int) < (nm.length : Int)) = false := by simp; omega
  have q3 : decide ((64 : Int) < (tw.length : Int)) = false := by simp; omega
  have q4 : decide ((32 : Int) < (tw.length : Int)) = false := by simp; omega
  have HRV := Lib.hid hrv
  have HRW := Lib.hid hrw
  have HH1 := Lib.hid H1
  have HH2 := Lib.hid H2
  have HH3 := Lib.hid H3
  have HH4 := Lib.hid H4
  have HH5 := Lib.hid H5
  have HH6 := Lib.hid H6
  clear hrv hrw h1 H1 H2 H3 H4 H5 H6
  obtain ⟨hW, hV, hb0⟩ := box3x2 w 23 (.int .i64 kw) (.int .i64 iw) (.string ⟨tw.toArray⟩) (.int .i64 kw) (.int .i64 iw) (.string ⟨tw.toArray⟩)
  go_enter Try.func6, Try.ntmps6
  go_wp2_with fail
  generalize (w.alloc (.cells #[.int .i64 kw, .int .i64 iw, .string ⟨tw.toArray⟩] 23)).alloc (.cells #[.int .i64 kw, .int .i64 iw, .string ⟨tw.toArray⟩] 23) = w0 at *
  refine (small_any w0).mono ?_
  rintro e w1 ⟨rfl, hb1⟩
  replace hW := hW.below hb1 hW.lt
  replace hV := hV.below hb1 hV.lt
  have hbw := below_next hb0 (Nat.le_refl _) hb1
  clear hb0 hb1
  obtain ⟨c0, c1, c2, _, _, _⟩ := blk3 hW
  obtain ⟨d0, d1, d2, _, _, _⟩ := blk3 hV
  go_wp2_with fail
  refine (right_is kw iw tw w1 (by omega) true HRV.out).mono ?_
  rintro e w2 ⟨rfl, hb2⟩
  replace hW := hW.below hb2 hW.lt
  replace hV := hV.below hb2 hV.lt
  replace hbw := below_next hbw (Nat.le_refl _) hb2
  clear hb2 c0 c1 c2 d0 d1 d2
  obtain ⟨c0, c1, c2, _, _, _⟩ := blk3 hW
  go_wp2_with fail
  refine (right_is kw iw tw w2 (by omega) true HRW.out).mono ?_
  rintro e w3 ⟨rfl, hb2⟩
  replace hW := hW.below hb2 hW.lt
  replace hV := hV.below hb2 hV.lt
  replace hbw := below_next hbw (Nat.le_refl _) hb2
  clear hb2 c0 c1 c2
  clear q1 q2 q3 q4
  go_wp2_with fail
  have hA : Blk (w3.alloc (.cells #[.bool false, .bool false, .bool false, .bool false, .bool false, .bool false, .bool false, .bool false, .bool false] 48)) w3.heap.size 48 (rowQ true false false true false true 1) := Blk.new w3 _ _
  have hb4 : Below w3.heap.size w3 (w3.alloc (.cells #[.bool false, .bool false, .bool false, .bool false, .bool false, .bool false, .bool false, .bool false, .bool false] 48)) := (Below.refl _ _).alloc (Nat.le_refl _) _
  have hgl : w.heap.size + 1 < w3.heap.size := hV.lt
  replace hW := hW.below hb4 hW.lt
  replace hV := hV.below hb4 hV.lt
  replace hbw := below_next hbw (Nat.le_refl _) hb4
  clear hb4
  generalize w3.heap.size = ga at *
  generalize w3.alloc (.cells #[.bool false, .bool false, .bool false, .bool false, .bool false, .bool false, .bool false, .bool false, .bool false] 48) = w4 at *
  go_loopw [9] (fun x wr => ∃ q : Nat, 1 ≤ q ∧ q ≤ 7 ∧ x = .int .i64 (q : Int) ∧ Hid (Below w.heap.size w wr) ∧ Hid (Blk wr w.heap.size 23 #[.int .i64 kw, .int .i64 iw, .string ⟨tw.toArray⟩]) ∧ Hid (Blk wr (w.heap.size + 1) 23 #[.int .i64 kw, .int .i64 iw, .string ⟨tw.toArray⟩]) ∧ Hid (Blk wr ga 48 (rowQ true false false true false true q))) (fun x _ => 7 - (intOf x).toNat)
  case atStart => exact ⟨1, by omega, by omega, rfl, hbw, hW, hV, hA⟩
  case round =>
    clear hbw hW hV hA
    obtain ⟨q, hq1, hq2, rfl, HB, HW, HV, HA⟩ := hrel
    obtain ⟨c0, c1, c2, _, _, _⟩ := blk3 HW.out
    obtain ⟨d0, d1, d2, _, _, _⟩ := blk3 HV.out
    have h7 : q = 1 ∨ q = 2 ∨ q = 3 ∨ q = 4 ∨ q = 5 ∨ q = 6 ∨ q = 7 := by omega
    clear hq1 hq2
    rcases h7 with rfl | rfl | rfl | rfl | rfl | rfl | rfl
    · go_wp2_with fail
      refine (holds_is nm 1 kw iw tw kw iw tw wr (by omega) (by omega) (by omega) true HH1.out).mono ?_
      rintro e w5 ⟨rfl, hb5⟩
      have hA5 := HA.out.below hb5 HA.out.lt
      have hW5 := HW.out.below hb5 HW.out.lt
      have hV5 := HV.out.below hb5 HV.out.lt
      have hb5w := below_next HB.out (Nat.le_refl _) hb5
      have cz : w5.cell? ⟨ga, 1, none⟩ = some (.bool false) := hA5.cell 1
      have fz := hA5.frozen 1
      have hA6 : Hid (Blk (w5.setCell ⟨ga, 1, none⟩ (.bool true)) ga 48 (rowQ true false false true false true 2)) := hA5.put 1 (.bool true)
      have hW6 := Lib.hid (hW5.far (p := ⟨ga, 1, none⟩) (by show w.heap.size ≠ ga; omega) (.bool true))
      have hV6 := Lib.hid (hV5.far (p := ⟨ga, 1, none⟩) (by show w.heap.size + 1 ≠ ga; omega) (.bool true))
      have hb6 := Lib.hid (hb5w.setCell (p := ⟨ga, 1, none⟩) (by show w.heap.size ≤ ga; omega) (.bool true))
      clear HA HW HV HB hA5 hW5 hV5 hb5 hb5w c0 c1 c2 d0 d1 d2
      go_wp2_with fail
      go_roundw
      case rel => exact ⟨2, by omega, by omega, by first | rfl | go_num, hb6, hW6, hV6, hA6⟩
      case measure => simp [intOf]
    · go_wp2_with fail
      refine (holds_is nm 2 kw iw tw kw iw tw wr (by omega) (by omega) (by omega) false HH2.out).mono ?_
      rintro e w5 ⟨rfl, hb5⟩
      have hA5 := HA.out.below hb5 HA.out.lt
      have hW5 := HW.out.below hb5 HW.out.lt
      have hV5 := HV.out.below hb5 HV.out.lt
      have hb5w := below_next HB.out (Nat.le_refl _) hb5
      have cz : w5.cell? ⟨ga, 2, none⟩ = some (.bool false) := hA5.cell 2
      have fz := hA5.frozen 2
      have hA6 : Hid (Blk (w5.setCell ⟨ga, 2, none⟩ (.bool false)) ga 48 (rowQ true false false true false true 3)) := hA5.put 2 (.bool false)
      have hW6 := Lib.hid (hW5.far (p := ⟨ga, 2, none⟩) (by show w.heap.size ≠ ga; omega) (.bool false))
      have hV6 := Lib.hid (hV5.far (p := ⟨ga, 2, none⟩) (by show w.heap.size + 1 ≠ ga; omega) (.bool false))
      have hb6 := Lib.hid (hb5w.setCell (p := ⟨ga, 2, none⟩) (by show w.heap.size ≤ ga; omega) (.bool false))
      clear HA HW HV HB hA5 hW5 hV5 hb5 hb5w c0 c1 c2 d0 d1 d2
      go_wp2_with fail
      go_roundw
      case rel => exact ⟨3, by omega, by omega, by first | rfl | go_num, hb6, hW6, hV6, hA6⟩
      case measure => simp [intOf]
    · go_wp2_with fail
      refine (holds_is nm 3 kw iw tw kw iw tw wr (by omega) (by omega) (by omega) false HH3.out).mono ?_
      rintro e w5 ⟨rfl, hb5⟩
      have hA5 := HA.out.below hb5 HA.out.lt
      have hW5 := HW.out.below hb5 HW.out.lt
      have hV5 := HV.out.below hb5 HV.out.lt
      have hb5w := below_next HB.out (Nat.le_refl _) hb5
      have cz : w5.cell? ⟨ga, 3, none⟩ = some (.bool false) := hA5.cell 3
      have fz := hA5.frozen 3
      have hA6 : Hid (Blk (w5.setCell ⟨ga, 3, none⟩ (.bool false)) ga 48 (rowQ true false false true false true 4)) := hA5.put 3 (.bool false)
      have hW6 := Lib.hid (hW5.far (p := ⟨ga, 3, none⟩) (by show w.heap.size ≠ ga; omega) (.bool false))
      have hV6 := Lib.hid (hV5.far (p := ⟨ga, 3, none⟩) (by show w.heap.size + 1 ≠ ga; omega) (.bool false))
      have hb6 := Lib.hid (hb5w.setCell (p := ⟨ga, 3, none⟩) (by show w.heap.size ≤ ga; omega) (.bool false))
      clear HA HW HV HB hA5 hW5 hV5 hb5 hb5w c0 c1 c2 d0 d1 d2
      go_wp2_with fail
      go_roundw
      case rel => exact ⟨4, by omega, by omega, by first | rfl | go_num, hb6, hW6, hV6, hA6⟩
      case measure => simp [intOf]
    · go_wp2_with fail
      refine (holds_is nm 4 kw iw tw kw iw tw wr (by omega) (by omega) (by omega) true HH4.out).mono ?_
      rintro e w5 ⟨rfl, hb5⟩
      have hA5 := HA.out.below hb5 HA.out.lt
      have hW5 := HW.out.below hb5 HW.out.lt
      have hV5 := HV.out.below hb5 HV.out.lt
      have hb5w := below_next HB.out (Nat.le_refl _) hb5
      have cz : w5.cell? ⟨ga, 4, none⟩ = some (.bool false) := hA5.cell 4
      have fz := hA5.frozen 4
      have hA6 : Hid (Blk (w5.setCell ⟨ga, 4, none⟩ (.bool true)) ga 48 (rowQ true false false true false true 5)) := hA5.put 4 (.bool true)
      have hW6 := Lib.hid (hW5.far (p := ⟨ga, 4, none⟩) (by show w.heap.size ≠ ga; omega) (.bool true))
      have hV6 := Lib.hid (hV5.far (p := ⟨ga, 4, none⟩) (by show w.heap.size + 1 ≠ ga; omega) (.bool true))
      have hb6 := Lib.hid (hb5w.setCell (p := ⟨ga, 4, none⟩) (by show w.heap.size ≤ ga; omega) (.bool true))
      clear HA HW HV HB hA5 hW5 hV5 hb5 hb5w c0 c1 c2 d0 d1 d2
      go_wp2_with fail
      go_roundw
      case rel => exact ⟨5, by omega, by omega, by first | rfl | go_num, hb6, hW6, hV6, hA6⟩
      case measure => simp [intOf]
    · go_wp2_with fail
      refine (holds_is nm 5 kw iw tw kw iw tw wr (by omega) (by omega) (by omega) false HH5.out).mono ?_
      rintro e w5 ⟨rfl, hb5⟩
      have hA5 := HA.out.below hb5 HA.out.lt
      have hW5 := HW.out.below hb5 HW.out.lt
      have hV5 := HV.out.below hb5 HV.out.lt
      have hb5w := below_next HB.out (Nat.le_refl _) hb5
      have cz : w5.cell? ⟨ga, 5, none⟩ = some (.bool false) := hA5.cell 5
      have fz := hA5.frozen 5
      have hA6 : Hid (Blk (w5.setCell ⟨ga, 5, none⟩ (.bool false)) ga 48 (rowQ true false false true false true 6)) := hA5.put 5 (.bool false)
      have hW6 := Lib.hid (hW5.far (p := ⟨ga, 5, none⟩) (by show w.heap.size ≠ ga; omega) (.bool false))
      have hV6 := Lib.hid (hV5.far (p := ⟨ga, 5, none⟩) (by show w.heap.size + 1 ≠ ga; omega) (.bool false))
      have hb6 := Lib.hid (hb5w.setCell (p := ⟨ga, 5, none⟩) (by show w.heap.size ≤ ga; omega) (.bool false))
      clear HA HW HV HB hA5 hW5 hV5 hb5 hb5w c0 c1 c2 d0 d1 d2
      go_wp2_with fail
      go_roundw
      case rel => exact ⟨6, by omega, by omega, by first | rfl | go_num, hb6, hW6, hV6, hA6⟩
      case measure => simp [intOf]
    · go_wp2_with fail
      refine (holds_is nm 6 kw iw tw kw iw tw wr (by omega) (by omega) (by omega) true HH6.out).mono ?_
      rintro e w5 ⟨rfl, hb5⟩
      have hA5 := HA.out.below hb5 HA.out.lt
      have hW5 := HW.out.below hb5 HW.out.lt
      have hV5 := HV.out.below hb5 HV.out.lt
      have hb5w := below_next HB.out (Nat.le_refl _) hb5
      have cz : w5.cell? ⟨ga, 6, none⟩ = some (.bool false) := hA5.cell 6
      have fz := hA5.frozen 6
      have hA6 : Hid (Blk (w5.setCell ⟨ga, 6, none⟩ (.bool true)) ga 48 (rowQ true false false true false true 7)) := hA5.put 6 (.bool true)
      have hW6 := Lib.hid (hW5.far (p := ⟨ga, 6, none⟩) (by show w.heap.size ≠ ga; omega) (.bool true))
      have hV6 := Lib.hid (hV5.far (p := ⟨ga, 6, none⟩) (by show w.heap.size + 1 ≠ ga; omega) (.bool true))
      have hb6 := Lib.hid (hb5w.setCell (p := ⟨ga, 6, none⟩) (by show w.heap.size ≤ ga; omega) (.bool true))
      clear HA HW HV HB hA5 hW5 hV5 hb5 hb5w c0 c1 c2 d0 d1 d2
      go_wp2_with fail
      go_roundw
      case rel => exact ⟨7, by omega, by omega, by first | rfl | go_num, hb6, hW6, hV6, hA6⟩
      case measure => simp [intOf]
    · have hbn := HB
      have z1 : wr.cell? ⟨ga, 1, none⟩ = some (.bool true) := HA.out.cell 1
      have z2 : wr.cell? ⟨ga, 2, none⟩ = some (.bool false) := HA.out.cell 2
      have z3 : wr.cell? ⟨ga, 3, none⟩ = some (.bool false) := HA.out.cell 3
      have z4 : wr.cell? ⟨ga, 4, none⟩ = some (.bool true) := HA.out.cell 4
      have z5 : wr.cell? ⟨ga, 5, none⟩ = some (.bool false) := HA.out.cell 5
      have z6 : wr.cell? ⟨ga, 6, none⟩ = some (.bool true) := HA.out.cell 6
      clear HA HW HV HB
      have hG := eqGuardV
      go_wp2_with fail
      go_quiet (fail)
      have hbq := hbn.out.trans (below_drewN (Below.refl _ _) nq)
      generalize wr.drewN nq = w9 at *
      go_wp2_with fail
      go_ret
      exact ⟨rfl, hbq⟩
set_option maxRecDepth 100000 in
set_option maxHeartbeats 3200000 in
theorem turns_lessI (w : World) (nm : List UInt8) (iv iw kw : Int) (tv tw : List UInt8) (h1 : 1 ≤ nm.length) (h2 : nm.length ≤ 16) (h3 : tv.length ≤ 64) (h4 : tw.length ≤ 32) (hrv : Vals.right kw iv tv = true) (hrw : Vals.right kw iw tw = true) (hi : iv ≠ iw) (H1 : Preds.holds nm 1 kw iw tw kw iv tv = false) (H2 : Preds.holds nm 2 kw iw tw kw iv tv = true) (H3 : Preds.holds nm 3 kw iw tw kw iv tv = true) (H4 : Preds.holds nm 4 kw iw tw kw iv tv = true) (H5 : Preds.holds nm 5 kw iw tw kw iv tv = false) (H6 : Preds.holds nm 6 kw iw tw kw iv tv = false) :
    Calls Try.prog 6 #[.string ⟨nm.toArray⟩, .agg #[.int .i64 kw, .int .i64 iw, .string ⟨tw.toArray⟩], .agg #[.int .i64 kw, .int .i64 iv, .string ⟨tv.toArray⟩]] w fun e w' => e = .returned (.bool true) ∧ Below w.heap.size w w' := by
  have q1 : decide ((nm.length : Int) < 1) = false := by simp; omega
  have q2 : decide ((16 : Int) < (nm.length : Int)) = false := by simp; omega
  have q3 : decide ((64 : Int) < (tv.length : Int)) = false := by simp; omega
  have q4 : decide ((32 : Int) < (tw.length : Int)) = false := by simp; omega
  have ei : (iv == iw) = false := by simpa using hi
  clear hi
  have HRV := Lib.hid hrv
  have HRW := Lib.hid hrw
  have HH1 := Lib.hid H1
  have HH2 := Lib.hid H2
  have HH3 := Lib.hid H3
  have HH4 := Lib.hid H4
  have HH5 := Lib.hid H5
  have HH6 := Lib.hid H6
  clear hrv hrw h1 H1 H2 H3 H4 H5 H6
  obtain ⟨hW, hV, hb0⟩ := box3x2 w 23 (.int .i64 kw) (.int .i64 iw) (.string ⟨tw.toArray⟩) (.int .i64 kw) (.int .i64 iv) (.string ⟨tv.toArray⟩)
  go_enter Try.func6, Try.ntmps6
  go_wp2_with fail
  generalize (w.alloc (.cells #[.int .i64 kw, .int .i64 iw, .string ⟨tw.toArray⟩] 23)).alloc (.cells #[.int .i64 kw, .int .i64 iv, .string ⟨tv.toArray⟩] 23) = w0 at *
  refine (small_any w0).mono ?_
  rintro e w1 ⟨rfl, hb1⟩
  replace hW := hW.below hb1 hW.lt
  replace hV := hV.below hb1 hV.lt
  have hbw := below_next hb0 (Nat.le_refl _) hb1
  clear hb0 hb1
  obtain ⟨c0, c1, c2, _, _, _⟩ := blk3 hW
  obtain ⟨d0, d1, d2, _, _, _⟩ := blk3 hV
  go_wp2_with fail
  refine (right_is kw iv tv w1 (by omega) true HRV.out).mono ?_
  rintro e w2 ⟨rfl, hb2⟩
  replace hW := hW.below hb2 hW.lt
  replace hV := hV.below hb2 hV.lt
  replace hbw := below_next hbw (Nat.le_refl _) hb2
  clear hb2 c0 c1 c2 d0 d1 d2
  obtain ⟨c0, c1, c2, _, _, _⟩ := blk3 hW
  go_wp2_with fail
  refine (right_is kw iw tw w2 (by omega) true HRW.out).mono ?_
  rintro e w3 ⟨rfl, hb2⟩
  replace hW := hW.below hb2 hW.lt
  replace hV := hV.below hb2 hV.lt
  replace hbw := below_next hbw (Nat.le_refl _) hb2
  clear hb2 c0 c1 c2
  clear q1 q2 q3 q4
  go_wp2_with fail
  have hA : Blk (w3.alloc (.cells #[.bool false, .bool false, .bool false, .bool false, .bool false, .bool false, .bool false, .bool false, .bool false] 48)) w3.heap.size 48 (rowQ false true true true false false 1) := Blk.new w3 _ _
  have hb4 : Below w3.heap.size w3 (w3.alloc (.cells #[.bool false, .bool false, .bool false, .bool false, .bool false, .bool false, .bool false, .bool false, .bool false] 48)) := (Below.refl _ _).alloc (Nat.le_refl _) _
  have hgl : w.heap.size + 1 < w3.heap.size := hV.lt
  replace hW := hW.below hb4 hW.lt
  replace hV := hV.below hb4 hV.lt
  replace hbw := below_next hbw (Nat.le_refl _) hb4
  clear hb4
  generalize w3.heap.size = ga at *
  generalize w3.alloc (.cells #[.bool false, .bool false, .bool false, .bool false, .bool false, .bool false, .bool false, .bool false, .bool false] 48) = w4 at *
  go_loopw [9] (fun x wr => ∃ q : Nat, 1 ≤ q ∧ q ≤ 7 ∧ x = .int .i64 (q : Int) ∧ Hid (Below w.heap.size w wr) ∧ Hid (Blk wr w.heap.size 23 #[.int .i64 kw, .int .i64 iw, .string ⟨tw.toArray⟩]) ∧ Hid (Blk wr (w.heap.size + 1) 23 #[.int .i64 kw, .int .i64 iv, .string ⟨tv.toArray⟩]) ∧ Hid (Blk wr ga 48 (rowQ false true true true false false q))) (fun x _ => 7 - (intOf x).toNat)
  case atStart => exact ⟨1, by omega, by omega, rfl, hbw, hW, hV, hA⟩
  case round =>
    clear hbw hW hV hA
    obtain ⟨q, hq1, hq2, rfl, HB, HW, HV, HA⟩ := hrel
    obtain ⟨c0, c1, c2, _, _, _⟩ := blk3 HW.out
    obtain ⟨d0, d1, d2, _, _, _⟩ := blk3 HV.out
    have h7 : q = 1 ∨ q = 2 ∨ q = 3 ∨ q = 4 ∨ q = 5 ∨ q = 6 ∨ q = 7 := by omega
    clear hq1 hq2
    rcases h7 with rfl | rfl | rfl | rfl | rfl | rfl | rfl
    · go_wp2_with fail
      refine (holds_is nm 1 kw iw tw kw iv tv wr (by omega) (by omega) (by omega) false HH1.out).mono ?_
      rintro e w5 ⟨rfl, hb5⟩
      have hA5 := HA.out.below hb5 HA.out.lt
      have hW5 := HW.out.below hb5 HW.out.lt
      have hV5 := HV.out.below hb5 HV.out.lt
      have hb5w := below_next HB.out (Nat.le_refl _) hb5
      have cz : w5.cell? ⟨ga, 1, none⟩ = some (.bool false) := hA5.cell 1
      have fz := hA5.frozen 1
      have hA6 : Hid (Blk (w5.setCell ⟨ga, 1, none⟩ (.bool false)) ga 48 (rowQ false true true true false false 2)) := hA5.put 1 (.bool false)
      have hW6 := Lib.hid (hW5.far (p := ⟨ga, 1, none⟩) (by show w.heap.size ≠ ga; omega) (.bool false))
      have hV6 := Lib.hid (hV5.far (p := ⟨ga, 1, none⟩) (by show w.heap.size + 1 ≠ ga; omega) (.bool false))
      have hb6 := Lib.hid (hb5w.setCell (p := ⟨ga, 1, none⟩) (by show w.heap.size ≤ ga; omega) (.bool false))
      clear HA HW HV HB hA5 hW5 hV5 hb5 hb5w c0 c1 c2 d0 d1 d2
      go_wp2_with fail
      go_roundw
      case rel => exact ⟨2, by omega, by omega, by first | rfl | go_num, hb6, hW6, hV6, hA6⟩
      case measure => simp [intOf]
    · go_wp2_with fail
      refine (holds_is nm 2 kw iw tw kw iv tv wr (by omega) (by omega) (by omega) true HH2.out).mono ?_
      rintro e w5 ⟨rfl, hb5⟩
      have hA5 := HA.out.below hb5 HA.out.lt
      have hW5 := HW.out.below hb5 HW.out.lt
      have hV5 := HV.out.below hb5 HV.out.lt
      have hb5w := below_next HB.out (Nat.le_refl _) hb5
      have cz : w5.cell? ⟨ga, 2, none⟩ = some (.bool false) := hA5.cell 2
      have fz := hA5.frozen 2
      have hA6 : Hid (Blk (w5.setCell ⟨ga, 2, none⟩ (.bool true)) ga 48 (rowQ false true true true false false 3)) := hA5.put 2 (.bool true)
      have hW6 := Lib.hid (hW5.far (p := ⟨ga, 2, none⟩) (by show w.heap.size ≠ ga; omega) (.bool true))
      have hV6 := Lib.hid (hV5.far (p := ⟨ga, 2, none⟩) (by show w.heap.size + 1 ≠ ga; omega) (.bool true))
      have hb6 := Lib.hid (hb5w.setCell (p := ⟨ga, 2, none⟩) (by show w.heap.size ≤ ga; omega) (.bool true))
      clear HA HW HV HB hA5 hW5 hV5 hb5 hb5w c0 c1 c2 d0 d1 d2
      go_wp2_with fail
      go_roundw
      case rel => exact ⟨3, by omega, by omega, by first | rfl | go_num, hb6, hW6, hV6, hA6⟩
      case measure => simp [intOf]
    · go_wp2_with fail
      refine (holds_is nm 3 kw iw tw kw iv tv wr (by omega) (by omega) (by omega) true HH3.out).mono ?_
      rintro e w5 ⟨rfl, hb5⟩
      have hA5 := HA.out.below hb5 HA.out.lt
      have hW5 := HW.out.below hb5 HW.out.lt
      have hV5 := HV.out.below hb5 HV.out.lt
      have hb5w := below_next HB.out (Nat.le_refl _) hb5
      have cz : w5.cell? ⟨ga, 3, none⟩ = some (.bool false) := hA5.cell 3
      have fz := hA5.frozen 3
      have hA6 : Hid (Blk (w5.setCell ⟨ga, 3, none⟩ (.bool true)) ga 48 (rowQ false true true true false false 4)) := hA5.put 3 (.bool true)
      have hW6 := Lib.hid (hW5.far (p := ⟨ga, 3, none⟩) (by show w.heap.size ≠ ga; omega) (.bool true))
      have hV6 := Lib.hid (hV5.far (p := ⟨ga, 3, none⟩) (by show w.heap.size + 1 ≠ ga; omega) (.bool true))
      have hb6 := Lib.hid (hb5w.setCell (p := ⟨ga, 3, none⟩) (by show w.heap.size ≤ ga; omega) (.bool true))
      clear HA HW HV HB hA5 hW5 hV5 hb5 hb5w c0 c1 c2 d0 d1 d2
      go_wp2_with fail
      go_roundw
      case rel => exact ⟨4, by omega, by omega, by first | rfl | go_num, hb6, hW6, hV6, hA6⟩
      case measure => simp [intOf]
    · go_wp2_with fail
      refine (holds_is nm 4 kw iw tw kw iv tv wr (by omega) (by omega) (by omega) true HH4.out).mono ?_
      rintro e w5 ⟨rfl, hb5⟩
      have hA5 := HA.out.below hb5 HA.out.lt
      have hW5 := HW.out.below hb5 HW.out.lt
      have hV5 := HV.out.below hb5 HV.out.lt
      have hb5w := below_next HB.out (Nat.le_refl _) hb5
      have cz : w5.cell? ⟨ga, 4, none⟩ = some (.bool false) := hA5.cell 4
      have fz := hA5.frozen 4
      have hA6 : Hid (Blk (w5.setCell ⟨ga, 4, none⟩ (.bool true)) ga 48 (rowQ false true true true false false 5)) := hA5.put 4 (.bool true)
      have hW6 := Lib.hid (hW5.far (p := ⟨ga, 4, none⟩) (by show w.heap.size ≠ ga; omega) (.bool true))
      have hV6 := Lib.hid (hV5.far (p := ⟨ga, 4, none⟩) (by show w.heap.size + 1 ≠ ga; omega) (.bool true))
      have hb6 := Lib.hid (hb5w.setCell (p := ⟨ga, 4, none⟩) (by show w.heap.size ≤ ga; omega) (.bool true))
      clear HA HW HV HB hA5 hW5 hV5 hb5 hb5w c0 c1 c2 d0 d1 d2
      go_wp2_with fail
      go_roundw
      case rel => exact ⟨5, by omega, by omega, by first | rfl | go_num, hb6, hW6, hV6, hA6⟩
      case measure => simp [intOf]
    · go_wp2_with fail
      refine (holds_is nm 5 kw iw tw kw iv tv wr (by omega) (by omega) (by omega) false HH5.out).mono ?_
      rintro e w5 ⟨rfl, hb5⟩
      have hA5 := HA.out.below hb5 HA.out.lt
      have hW5 := HW.out.below hb5 HW.out.lt
      have hV5 := HV.out.below hb5 HV.out.lt
      have hb5w := below_next HB.out (Nat.le_refl _) hb5
      have cz : w5.cell? ⟨ga, 5, none⟩ = some (.bool false) := hA5.cell 5
      have fz := hA5.frozen 5
      have hA6 : Hid (Blk (w5.setCell ⟨ga, 5, none⟩ (.bool false)) ga 48 (rowQ false true true true false false 6)) := hA5.put 5 (.bool false)
      have hW6 := Lib.hid (hW5.far (p := ⟨ga, 5, none⟩) (by show w.heap.size ≠ ga; omega) (.bool false))
      have hV6 := Lib.hid (hV5.far (p := ⟨ga, 5, none⟩) (by show w.heap.size + 1 ≠ ga; omega) (.bool false))
      have hb6 := Lib.hid (hb5w.setCell (p := ⟨ga, 5, none⟩) (by show w.heap.size ≤ ga; omega) (.bool false))
      clear HA HW HV HB hA5 hW5 hV5 hb5 hb5w c0 c1 c2 d0 d1 d2
      go_wp2_with fail
      go_roundw
      case rel => exact ⟨6, by omega, by omega, by first | rfl | go_num, hb6, hW6, hV6, hA6⟩
      case measure => simp [intOf]
    · go_wp2_with fail
      refine (holds_is nm 6 kw iw tw kw iv tv wr (by omega) (by omega) (by omega) false HH6.out).mono ?_
      rintro e w5 ⟨rfl, hb5⟩
      have hA5 := HA.out.below hb5 HA.out.lt
      have hW5 := HW.out.below hb5 HW.out.lt
      have hV5 := HV.out.below hb5 HV.out.lt
      have hb5w := below_next HB.out (Nat.le_refl _) hb5
      have cz : w5.cell? ⟨ga, 6, none⟩ = some (.bool false) := hA5.cell 6
      have fz := hA5.frozen 6
      have hA6 : Hid (Blk (w5.setCell ⟨ga, 6, none⟩ (.bool false)) ga 48 (rowQ false true true true false false 7)) := hA5.put 6 (.bool false)
      have hW6 := Lib.hid (hW5.far (p := ⟨ga, 6, none⟩) (by show w.heap.size ≠ ga; omega) (.bool false))
      have hV6 := Lib.hid (hV5.far (p := ⟨ga, 6, none⟩) (by show w.heap.size + 1 ≠ ga; omega) (.bool false))
      have hb6 := Lib.hid (hb5w.setCell (p := ⟨ga, 6, none⟩) (by show w.heap.size ≤ ga; omega) (.bool false))
      clear HA HW HV HB hA5 hW5 hV5 hb5 hb5w c0 c1 c2 d0 d1 d2
      go_wp2_with fail
      go_roundw
      case rel => exact ⟨7, by omega, by omega, by first | rfl | go_num, hb6, hW6, hV6, hA6⟩
      case measure => simp [intOf]
    · have hbn := HB
      have z1 : wr.cell? ⟨ga, 1, none⟩ = some (.bool false) := HA.out.cell 1
      have z2 : wr.cell? ⟨ga, 2, none⟩ = some (.bool true) := HA.out.cell 2
      have z3 : wr.cell? ⟨ga, 3, none⟩ = some (.bool true) := HA.out.cell 3
      have z4 : wr.cell? ⟨ga, 4, none⟩ = some (.bool true) := HA.out.cell 4
      have z5 : wr.cell? ⟨ga, 5, none⟩ = some (.bool false) := HA.out.cell 5
      have z6 : wr.cell? ⟨ga, 6, none⟩ = some (.bool false) := HA.out.cell 6
      clear HA HW HV HB
      have hG := eqGuardV
      go_wp2_with fail
      go_quiet (fail)
      have hbq := hbn.out.trans (below_drewN (Below.refl _ _) nq)
      generalize wr.drewN nq = w9 at *
      go_wp2_with fail
      go_ret
      exact ⟨rfl, hbq⟩
set_option maxRecDepth 100000 in
set_option maxHeartbeats 3200000 in
theorem turns_lessT (w : World) (nm : List UInt8) (iw kw : Int) (tv tw : List UInt8) (h1 : 1 ≤ nm.length) (h2 : nm.length ≤ 16) (h3 : tv.length ≤ 64) (h4 : tw.length ≤ 32) (hrv : Vals.right kw iw tv = true) (hrw : Vals.right kw iw tw = true) (ht : tv ≠ tw) (H1 : Preds.holds nm 1 kw iw tw kw iw tv = false) (H2 : Preds.holds nm 2 kw iw tw kw iw tv = true) (H3 : Preds.holds nm 3 kw iw tw kw iw tv = true) (H4 : Preds.holds nm 4 kw iw tw kw iw tv = true) (H5 : Preds.holds nm 5 kw iw tw kw iw tv = false) (H6 : Preds.holds nm 6 kw iw tw kw iw tv = false) :
    Calls Try.prog 6 #[.string ⟨nm.toArray⟩, .agg #[.int .i64 kw, .int .i64 iw, .string ⟨tw.toArray⟩], .agg #[.int .i64 kw, .int .i64 iw, .string ⟨tv.toArray⟩]] w fun e w' => e = .returned (.bool true) ∧ Below w.heap.size w w' := by
  have q1 : decide ((nm.length : Int) < 1) = false := by simp; omega
  have q2 : decide ((16 : Int) < (nm.length : Int)) = false := by simp; omega
  have q3 : decide ((64 : Int) < (tv.length : Int)) = false := by simp; omega
  have q4 : decide ((32 : Int) < (tw.length : Int)) = false := by simp; omega
  have et : (tv == tw) = false := by simpa using ht
  clear ht
  have HRV := Lib.hid hrv
  have HRW := Lib.hid hrw
  have HH1 := Lib.hid H1
  have HH2 := Lib.hid H2
  have HH3 := Lib.hid H3
  have HH4 := Lib.hid H4
  have HH5 := Lib.hid H5
  have HH6 := Lib.hid H6
  clear hrv hrw h1 H1 H2 H3 H4 H5 H6
  obtain ⟨hW, hV, hb0⟩ := box3x2 w 23 (.int .i64 kw) (.int .i64 iw) (.string ⟨tw.toArray⟩) (.int .i64 kw) (.int .i64 iw) (.string ⟨tv.toArray⟩)
  go_enter Try.func6, Try.ntmps6
  go_wp2_with fail
  generalize (w.alloc (.cells #[.int .i64 kw, .int .i64 iw, .string ⟨tw.toArray⟩] 23)).alloc (.cells #[.int .i64 kw, .int .i64 iw, .string ⟨tv.toArray⟩] 23) = w0 at *
  refine (small_any w0).mono ?_
  rintro e w1 ⟨rfl, hb1⟩
  replace hW := hW.below hb1 hW.lt
  replace hV := hV.below hb1 hV.lt
  have hbw := below_next hb0 (Nat.le_refl _) hb1
  clear hb0 hb1
  obtain ⟨c0, c1, c2, _, _, _⟩ := blk3 hW
  obtain ⟨d0, d1, d2, _, _, _⟩ := blk3 hV
  go_wp2_with fail
  refine (right_is kw iw tv w1 (by omega) true HRV.out).mono ?_
  rintro e w2 ⟨rfl, hb2⟩
  replace hW := hW.below hb2 hW.lt
  replace hV := hV.below hb2 hV.lt
  replace hbw := below_next hbw (Nat.le_refl _) hb2
  clear hb2 c0 c1 c2 d0 d1 d2
  obtain ⟨c0, c1, c2, _, _, _⟩ := blk3 hW
  go_wp2_with fail
  refine (right_is kw iw tw w2 (by omega) true HRW.out).mono ?_
  rintro e w3 ⟨rfl, hb2⟩
  replace hW := hW.below hb2 hW.lt
  replace hV := hV.below hb2 hV.lt
  replace hbw := below_next hbw (Nat.le_refl _) hb2
  clear hb2 c0 c1 c2
  clear q1 q2 q3 q4
  go_wp2_with fail
  have hA : Blk (w3.alloc (.cells #[.bool false, .bool false, .bool false, .bool false, .bool false, .bool false, .bool false, .bool false, .bool false] 48)) w3.heap.size 48 (rowQ false true true true false false 1) := Blk.new w3 _ _
  have hb4 : Below w3.heap.size w3 (w3.alloc (.cells #[.bool false, .bool false, .bool false, .bool false, .bool false, .bool false, .bool false, .bool false, .bool false] 48)) := (Below.refl _ _).alloc (Nat.le_refl _) _
  have hgl : w.heap.size + 1 < w3.heap.size := hV.lt
  replace hW := hW.below hb4 hW.lt
  replace hV := hV.below hb4 hV.lt
  replace hbw := below_next hbw (Nat.le_refl _) hb4
  clear hb4
  generalize w3.heap.size = ga at *
  generalize w3.alloc (.cells #[.bool false, .bool false, .bool false, .bool false, .bool false, .bool false, .bool false, .bool false, .bool false] 48) = w4 at *
  go_loopw [9] (fun x wr => ∃ q : Nat, 1 ≤ q ∧ q ≤ 7 ∧ x = .int .i64 (q : Int) ∧ Hid (Below w.heap.size w wr) ∧ Hid (Blk wr w.heap.size 23 #[.int .i64 kw, .int .i64 iw, .string ⟨tw.toArray⟩]) ∧ Hid (Blk wr (w.heap.size + 1) 23 #[.int .i64 kw, .int .i64 iw, .string ⟨tv.toArray⟩]) ∧ Hid (Blk wr ga 48 (rowQ false true true true false false q))) (fun x _ => 7 - (intOf x).toNat)
  case atStart => exact ⟨1, by omega, by omega, rfl, hbw, hW, hV, hA⟩
  case round =>
    clear hbw hW hV hA
    obtain ⟨q, hq1, hq2, rfl, HB, HW, HV, HA⟩ := hrel
    obtain ⟨c0, c1, c2, _, _, _⟩ := blk3 HW.out
    obtain ⟨d0, d1, d2, _, _, _⟩ := blk3 HV.out
    have h7 : q = 1 ∨ q = 2 ∨ q = 3 ∨ q = 4 ∨ q = 5 ∨ q = 6 ∨ q = 7 := by omega
    clear hq1 hq2
    rcases h7 with rfl | rfl | rfl | rfl | rfl | rfl | rfl
    · go_wp2_with fail
      refine (holds_is nm 1 kw iw tw kw iw tv wr (by omega) (by omega) (by omega) false HH1.out).mono ?_
      rintro e w5 ⟨rfl, hb5⟩
      have hA5 := HA.out.below hb5 HA.out.lt
      have hW5 := HW.out.below hb5 HW.out.lt
      have hV5 := HV.out.below hb5 HV.out.lt
      have hb5w := below_next HB.out (Nat.le_refl _) hb5
      have cz : w5.cell? ⟨ga, 1, none⟩ = some (.bool false) := hA5.cell 1
      have fz := hA5.frozen 1
      have hA6 : Hid (Blk (w5.setCell ⟨ga, 1, none⟩ (.bool false)) ga 48 (rowQ false true true true false false 2)) := hA5.put 1 (.bool false)
      have hW6 := Lib.hid (hW5.far (p := ⟨ga, 1, none⟩) (by show w.heap.size ≠ ga; omega) (.bool false))
      have hV6 := Lib.hid (hV5.far (p := ⟨ga, 1, none⟩) (by show w.heap.size + 1 ≠ ga; omega) (.bool false))
      have hb6 := Lib.hid (hb5w.setCell (p := ⟨ga, 1, none⟩) (by show w.heap.size ≤ ga; omega) (.bool false))
      clear HA HW HV HB hA5 hW5 hV5 hb5 hb5w c0 c1 c2 d0 d1 d2
      go_wp2_with fail
      go_roundw
      case rel => exact ⟨2, by omega, by omega, by first | rfl | go_num, hb6, hW6, hV6, hA6⟩
      case measure => simp [intOf]
    · go_wp2_with fail
      refine (holds_is nm 2 kw iw tw kw iw tv wr (by omega) (by omega) (by omega) true HH2.out).mono ?_
      rintro e w5 ⟨rfl, hb5⟩
      have hA5 := HA.out.below hb5 HA.out.lt
      have hW5 := HW.out.below hb5 HW.out.lt
      have hV5 := HV.out.below hb5 HV.out.lt
      have hb5w := below_next HB.out (Nat.le_refl _) hb5
      have cz : w5.cell? ⟨ga, 2, none⟩ = some (.bool false) := hA5.cell 2
      have fz := hA5.frozen 2
      have hA6 : Hid (Blk (w5.setCell ⟨ga, 2, none⟩ (.bool true)) ga 48 (rowQ false true true true false false 3)) := hA5.put 2 (.bool true)
      have hW6 := Lib.hid (hW5.far (p := ⟨ga, 2, none⟩) (by show w.heap.size ≠ ga; omega) (.bool true))
      have hV6 := Lib.hid (hV5.far (p := ⟨ga, 2, none⟩) (by show w.heap.size + 1 ≠ ga; omega) (.bool true))
      have hb6 := Lib.hid (hb5w.setCell (p := ⟨ga, 2, none⟩) (by show w.heap.size ≤ ga; omega) (.bool true))
      clear HA HW HV HB hA5 hW5 hV5 hb5 hb5w c0 c1 c2 d0 d1 d2
      go_wp2_with fail
      go_roundw
      case rel => exact ⟨3, by omega, by omega, by first | rfl | go_num, hb6, hW6, hV6, hA6⟩
      case measure => simp [intOf]
    · go_wp2_with fail
      refine (holds_is nm 3 kw iw tw kw iw tv wr (by omega) (by omega) (by omega) true HH3.out).mono ?_
      rintro e w5 ⟨rfl, hb5⟩
      have hA5 := HA.out.below hb5 HA.out.lt
      have hW5 := HW.out.below hb5 HW.out.lt
      have hV5 := HV.out.below hb5 HV.out.lt
      have hb5w := below_next HB.out (Nat.le_refl _) hb5
      have cz : w5.cell? ⟨ga, 3, none⟩ = some (.bool false) := hA5.cell 3
      have fz := hA5.frozen 3
      have hA6 : Hid (Blk (w5.setCell ⟨ga, 3, none⟩ (.bool true)) ga 48 (rowQ false true true true false false 4)) := hA5.put 3 (.bool true)
      have hW6 := Lib.hid (hW5.far (p := ⟨ga, 3, none⟩) (by show w.heap.size ≠ ga; omega) (.bool true))
      have hV6 := Lib.hid (hV5.far (p := ⟨ga, 3, none⟩) (by show w.heap.size + 1 ≠ ga; omega) (.bool true))
      have hb6 := Lib.hid (hb5w.setCell (p := ⟨ga, 3, none⟩) (by show w.heap.size ≤ ga; omega) (.bool true))
      clear HA HW HV HB hA5 hW5 hV5 hb5 hb5w c0 c1 c2 d0 d1 d2
      go_wp2_with fail
      go_roundw
      case rel => exact ⟨4, by omega, by omega, by first | rfl | go_num, hb6, hW6, hV6, hA6⟩
      case measure => simp [intOf]
    · go_wp2_with fail
      refine (holds_is nm 4 kw iw tw kw iw tv wr (by omega) (by omega) (by omega) true HH4.out).mono ?_
      rintro e w5 ⟨rfl, hb5⟩
      have hA5 := HA.out.below hb5 HA.out.lt
      have hW5 := HW.out.below hb5 HW.out.lt
      have hV5 := HV.out.below hb5 HV.out.lt
      have hb5w := below_next HB.out (Nat.le_refl _) hb5
      have cz : w5.cell? ⟨ga, 4, none⟩ = some (.bool false) := hA5.cell 4
      have fz := hA5.frozen 4
      have hA6 : Hid (Blk (w5.setCell ⟨ga, 4, none⟩ (.bool true)) ga 48 (rowQ false true true true false false 5)) := hA5.put 4 (.bool true)
      have hW6 := Lib.hid (hW5.far (p := ⟨ga, 4, none⟩) (by show w.heap.size ≠ ga; omega) (.bool true))
      have hV6 := Lib.hid (hV5.far (p := ⟨ga, 4, none⟩) (by show w.heap.size + 1 ≠ ga; omega) (.bool true))
      have hb6 := Lib.hid (hb5w.setCell (p := ⟨ga, 4, none⟩) (by show w.heap.size ≤ ga; omega) (.bool true))
      clear HA HW HV HB hA5 hW5 hV5 hb5 hb5w c0 c1 c2 d0 d1 d2
      go_wp2_with fail
      go_roundw
      case rel => exact ⟨5, by omega, by omega, by first | rfl | go_num, hb6, hW6, hV6, hA6⟩
      case measure => simp [intOf]
    · go_wp2_with fail
      refine (holds_is nm 5 kw iw tw kw iw tv wr (by omega) (by omega) (by omega) false HH5.out).mono ?_
      rintro e w5 ⟨rfl, hb5⟩
      have hA5 := HA.out.below hb5 HA.out.lt
      have hW5 := HW.out.below hb5 HW.out.lt
      have hV5 := HV.out.below hb5 HV.out.lt
      have hb5w := below_next HB.out (Nat.le_refl _) hb5
      have cz : w5.cell? ⟨ga, 5, none⟩ = some (.bool false) := hA5.cell 5
      have fz := hA5.frozen 5
      have hA6 : Hid (Blk (w5.setCell ⟨ga, 5, none⟩ (.bool false)) ga 48 (rowQ false true true true false false 6)) := hA5.put 5 (.bool false)
      have hW6 := Lib.hid (hW5.far (p := ⟨ga, 5, none⟩) (by show w.heap.size ≠ ga; omega) (.bool false))
      have hV6 := Lib.hid (hV5.far (p := ⟨ga, 5, none⟩) (by show w.heap.size + 1 ≠ ga; omega) (.bool false))
      have hb6 := Lib.hid (hb5w.setCell (p := ⟨ga, 5, none⟩) (by show w.heap.size ≤ ga; omega) (.bool false))
      clear HA HW HV HB hA5 hW5 hV5 hb5 hb5w c0 c1 c2 d0 d1 d2
      go_wp2_with fail
      go_roundw
      case rel => exact ⟨6, by omega, by omega, by first | rfl | go_num, hb6, hW6, hV6, hA6⟩
      case measure => simp [intOf]
    · go_wp2_with fail
      refine (holds_is nm 6 kw iw tw kw iw tv wr (by omega) (by omega) (by omega) false HH6.out).mono ?_
      rintro e w5 ⟨rfl, hb5⟩
      have hA5 := HA.out.below hb5 HA.out.lt
      have hW5 := HW.out.below hb5 HW.out.lt
      have hV5 := HV.out.below hb5 HV.out.lt
      have hb5w := below_next HB.out (Nat.le_refl _) hb5
      have cz : w5.cell? ⟨ga, 6, none⟩ = some (.bool false) := hA5.cell 6
      have fz := hA5.frozen 6
      have hA6 : Hid (Blk (w5.setCell ⟨ga, 6, none⟩ (.bool false)) ga 48 (rowQ false true true true false false 7)) := hA5.put 6 (.bool false)
      have hW6 := Lib.hid (hW5.far (p := ⟨ga, 6, none⟩) (by show w.heap.size ≠ ga; omega) (.bool false))
      have hV6 := Lib.hid (hV5.far (p := ⟨ga, 6, none⟩) (by show w.heap.size + 1 ≠ ga; omega) (.bool false))
      have hb6 := Lib.hid (hb5w.setCell (p := ⟨ga, 6, none⟩) (by show w.heap.size ≤ ga; omega) (.bool false))
      clear HA HW HV HB hA5 hW5 hV5 hb5 hb5w c0 c1 c2 d0 d1 d2
      go_wp2_with fail
      go_roundw
      case rel => exact ⟨7, by omega, by omega, by first | rfl | go_num, hb6, hW6, hV6, hA6⟩
      case measure => simp [intOf]
    · have hbn := HB
      have z1 : wr.cell? ⟨ga, 1, none⟩ = some (.bool false) := HA.out.cell 1
      have z2 : wr.cell? ⟨ga, 2, none⟩ = some (.bool true) := HA.out.cell 2
      have z3 : wr.cell? ⟨ga, 3, none⟩ = some (.bool true) := HA.out.cell 3
      have z4 : wr.cell? ⟨ga, 4, none⟩ = some (.bool true) := HA.out.cell 4
      have z5 : wr.cell? ⟨ga, 5, none⟩ = some (.bool false) := HA.out.cell 5
      have z6 : wr.cell? ⟨ga, 6, none⟩ = some (.bool false) := HA.out.cell 6
      clear HA HW HV HB
      have hG := eqGuardV
      go_wp2_with fail
      go_quiet (fail)
      have hbq := hbn.out.trans (below_drewN (Below.refl _ _) nq)
      generalize wr.drewN nq = w9 at *
      go_wp2_with fail
      go_ret
      exact ⟨rfl, hbq⟩
set_option maxRecDepth 100000 in
set_option maxHeartbeats 3200000 in
theorem turns_moreI (w : World) (nm : List UInt8) (iv iw kw : Int) (tv tw : List UInt8) (h1 : 1 ≤ nm.length) (h2 : nm.length ≤ 16) (h3 : tv.length ≤ 64) (h4 : tw.length ≤ 32) (hrv : Vals.right kw iv tv = true) (hrw : Vals.right kw iw tw = true) (hi : iv ≠ iw) (H1 : Preds.holds nm 1 kw iw tw kw iv tv = false) (H2 : Preds.holds nm 2 kw iw tw kw iv tv = true) (H3 : Preds.holds nm 3 kw iw tw kw iv tv = false) (H4 : Preds.holds nm 4 kw iw tw kw iv tv = false) (H5 : Preds.holds nm 5 kw iw tw kw iv tv = true) (H6 : Preds.holds nm 6 kw iw tw kw iv tv = true) :
    Calls Try.prog 6 #[.string ⟨nm.toArray⟩, .agg #[.int .i64 kw, .int .i64 iw, .string ⟨tw.toArray⟩], .agg #[.int .i64 kw, .int .i64 iv, .string ⟨tv.toArray⟩]] w fun e w' => e = .returned (.bool true) ∧ Below w.heap.size w w' := by
  have q1 : decide ((nm.length : Int) < 1) = false := by simp; omega
  have q2 : decide ((16 : Int) < (nm.length : Int)) = false := by simp; omega
  have q3 : decide ((64 : Int) < (tv.length : Int)) = false := by simp; omega
  have q4 : decide ((32 : Int) < (tw.length : Int)) = false := by simp; omega
  have ei : (iv == iw) = false := by simpa using hi
  clear hi
  have HRV := Lib.hid hrv
  have HRW := Lib.hid hrw
  have HH1 := Lib.hid H1
  have HH2 := Lib.hid H2
  have HH3 := Lib.hid H3
  have HH4 := Lib.hid H4
  have HH5 := Lib.hid H5
  have HH6 := Lib.hid H6
  clear hrv hrw h1 H1 H2 H3 H4 H5 H6
  obtain ⟨hW, hV, hb0⟩ := box3x2 w 23 (.int .i64 kw) (.int .i64 iw) (.string ⟨tw.toArray⟩) (.int .i64 kw) (.int .i64 iv) (.string ⟨tv.toArray⟩)
  go_enter Try.func6, Try.ntmps6
  go_wp2_with fail
  generalize (w.alloc (.cells #[.int .i64 kw, .int .i64 iw, .string ⟨tw.toArray⟩] 23)).alloc (.cells #[.int .i64 kw, .int .i64 iv, .string ⟨tv.toArray⟩] 23) = w0 at *
  refine (small_any w0).mono ?_
  rintro e w1 ⟨rfl, hb1⟩
  replace hW := hW.below hb1 hW.lt
  replace hV := hV.below hb1 hV.lt
  have hbw := below_next hb0 (Nat.le_refl _) hb1
  clear hb0 hb1
  obtain ⟨c0, c1, c2, _, _, _⟩ := blk3 hW
  obtain ⟨d0, d1, d2, _, _, _⟩ := blk3 hV
  go_wp2_with fail
  refine (right_is kw iv tv w1 (by omega) true HRV.out).mono ?_
  rintro e w2 ⟨rfl, hb2⟩
  replace hW := hW.below hb2 hW.lt
  replace hV := hV.below hb2 hV.lt
  replace hbw := below_next hbw (Nat.le_refl _) hb2
  clear hb2 c0 c1 c2 d0 d1 d2
  obtain ⟨c0, c1, c2, _, _, _⟩ := blk3 hW
  go_wp2_with fail
  refine (right_is kw iw tw w2 (by omega) true HRW.out).mono ?_
  rintro e w3 ⟨rfl, hb2⟩
  replace hW := hW.below hb2 hW.lt
  replace hV := hV.below hb2 hV.lt
  replace hbw := below_next hbw (Nat.le_refl _) hb2
  clear hb2 c0 c1 c2
  clear q1 q2 q3 q4
  go_wp2_with fail
  have hA : Blk (w3.alloc (.cells #[.bool false, .bool false, .bool false, .bool false, .bool false, .bool false, .bool false, .bool false, .bool false] 48)) w3.heap.size 48 (rowQ false true false false true true 1) := Blk.new w3 _ _
  have hb4 : Below w3.heap.size w3 (w3.alloc (.cells #[.bool false, .bool false, .bool false, .bool false, .bool false, .bool false, .bool false, .bool false, .bool false] 48)) := (Below.refl _ _).alloc (Nat.le_refl _) _
  have hgl : w.heap.size + 1 < w3.heap.size := hV.lt
  replace hW := hW.below hb4 hW.lt
  replace hV := hV.below hb4 hV.lt
  replace hbw := below_next hbw (Nat.le_refl _) hb4
  clear hb4
  generalize w3.heap.size = ga at *
  generalize w3.alloc (.cells #[.bool false, .bool false, .bool false, .bool false, .bool false, .bool false, .bool false, .bool false, .bool false] 48) = w4 at *
  go_loopw [9] (fun x wr => ∃ q : Nat, 1 ≤ q ∧ q ≤ 7 ∧ x = .int .i64 (q : Int) ∧ Hid (Below w.heap.size w wr) ∧ Hid (Blk wr w.heap.size 23 #[.int .i64 kw, .int .i64 iw, .string ⟨tw.toArray⟩]) ∧ Hid (Blk wr (w.heap.size + 1) 23 #[.int .i64 kw, .int .i64 iv, .string ⟨tv.toArray⟩]) ∧ Hid (Blk wr ga 48 (rowQ false true false false true true q))) (fun x _ => 7 - (intOf x).toNat)
  case atStart => exact ⟨1, by omega, by omega, rfl, hbw, hW, hV, hA⟩
  case round =>
    clear hbw hW hV hA
    obtain ⟨q, hq1, hq2, rfl, HB, HW, HV, HA⟩ := hrel
    obtain ⟨c0, c1, c2, _, _, _⟩ := blk3 HW.out
    obtain ⟨d0, d1, d2, _, _, _⟩ := blk3 HV.out
    have h7 : q = 1 ∨ q = 2 ∨ q = 3 ∨ q = 4 ∨ q = 5 ∨ q = 6 ∨ q = 7 := by omega
    clear hq1 hq2
    rcases h7 with rfl | rfl | rfl | rfl | rfl | rfl | rfl
    · go_wp2_with fail
      refine (holds_is nm 1 kw iw tw kw iv tv wr (by omega) (by omega) (by omega) false HH1.out).mono ?_
      rintro e w5 ⟨rfl, hb5⟩
      have hA5 := HA.out.below hb5 HA.out.lt
      have hW5 := HW.out.below hb5 HW.out.lt
      have hV5 := HV.out.below hb5 HV.out.lt
      have hb5w := below_next HB.out (Nat.le_refl _) hb5
      have cz : w5.cell? ⟨ga, 1, none⟩ = some (.bool false) := hA5.cell 1
      have fz := hA5.frozen 1
      have hA6 : Hid (Blk (w5.setCell ⟨ga, 1, none⟩ (.bool false)) ga 48 (rowQ false true false false true true 2)) := hA5.put 1 (.bool false)
      have hW6 := Lib.hid (hW5.far (p := ⟨ga, 1, none⟩) (by show w.heap.size ≠ ga; omega) (.bool false))
      have hV6 := Lib.hid (hV5.far (p := ⟨ga, 1, none⟩) (by show w.heap.size + 1 ≠ ga; omega) (.bool false))
      have hb6 := Lib.hid (hb5w.setCell (p := ⟨ga, 1, none⟩) (by show w.heap.size ≤ ga; omega) (.bool false))
      clear HA HW HV HB hA5 hW5 hV5 hb5 hb5w c0 c1 c2 d0 d1 d2
      go_wp2_with fail
      go_roundw
      case rel => exact ⟨2, by omega, by omega, by first | rfl | go_num, hb6, hW6, hV6, hA6⟩
      case measure => simp [intOf]
    · go_wp2_with fail
      refine (holds_is nm 2 kw iw tw kw iv tv wr (by omega) (by omega) (by omega) true HH2.out).mono ?_
      rintro e w5 ⟨rfl, hb5⟩
      have hA5 := HA.out.below hb5 HA.out.lt
      have hW5 := HW.out.below hb5 HW.out.lt
      have hV5 := HV.out.below hb5 HV.out.lt
      have hb5w := below_next HB.out (Nat.le_refl _) hb5
      have cz : w5.cell? ⟨ga, 2, none⟩ = some (.bool false) := hA5.cell 2
      have fz := hA5.frozen 2
      have hA6 : Hid (Blk (w5.setCell ⟨ga, 2, none⟩ (.bool true)) ga 48 (rowQ false true false false true true 3)) := hA5.put 2 (.bool true)
      have hW6 := Lib.hid (hW5.far (p := ⟨ga, 2, none⟩) (by show w.heap.size ≠ ga; omega) (.bool true))
      have hV6 := Lib.hid (hV5.far (p := ⟨ga, 2, none⟩) (by show w.heap.size + 1 ≠ ga; omega) (.bool true))
      have hb6 := Lib.hid (hb5w.setCell (p := ⟨ga, 2, none⟩) (by show w.heap.size ≤ ga; omega) (.bool true))
      clear HA HW HV HB hA5 hW5 hV5 hb5 hb5w c0 c1 c2 d0 d1 d2
      go_wp2_with fail
      go_roundw
      case rel => exact ⟨3, by omega, by omega, by first | rfl | go_num, hb6, hW6, hV6, hA6⟩
      case measure => simp [intOf]
    · go_wp2_with fail
      refine (holds_is nm 3 kw iw tw kw iv tv wr (by omega) (by omega) (by omega) false HH3.out).mono ?_
      rintro e w5 ⟨rfl, hb5⟩
      have hA5 := HA.out.below hb5 HA.out.lt
      have hW5 := HW.out.below hb5 HW.out.lt
      have hV5 := HV.out.below hb5 HV.out.lt
      have hb5w := below_next HB.out (Nat.le_refl _) hb5
      have cz : w5.cell? ⟨ga, 3, none⟩ = some (.bool false) := hA5.cell 3
      have fz := hA5.frozen 3
      have hA6 : Hid (Blk (w5.setCell ⟨ga, 3, none⟩ (.bool false)) ga 48 (rowQ false true false false true true 4)) := hA5.put 3 (.bool false)
      have hW6 := Lib.hid (hW5.far (p := ⟨ga, 3, none⟩) (by show w.heap.size ≠ ga; omega) (.bool false))
      have hV6 := Lib.hid (hV5.far (p := ⟨ga, 3, none⟩) (by show w.heap.size + 1 ≠ ga; omega) (.bool false))
      have hb6 := Lib.hid (hb5w.setCell (p := ⟨ga, 3, none⟩) (by show w.heap.size ≤ ga; omega) (.bool false))
      clear HA HW HV HB hA5 hW5 hV5 hb5 hb5w c0 c1 c2 d0 d1 d2
      go_wp2_with fail
      go_roundw
      case rel => exact ⟨4, by omega, by omega, by first | rfl | go_num, hb6, hW6, hV6, hA6⟩
      case measure => simp [intOf]
    · go_wp2_with fail
      refine (holds_is nm 4 kw iw tw kw iv tv wr (by omega) (by omega) (by omega) false HH4.out).mono ?_
      rintro e w5 ⟨rfl, hb5⟩
      have hA5 := HA.out.below hb5 HA.out.lt
      have hW5 := HW.out.below hb5 HW.out.lt
      have hV5 := HV.out.below hb5 HV.out.lt
      have hb5w := below_next HB.out (Nat.le_refl _) hb5
      have cz : w5.cell? ⟨ga, 4, none⟩ = some (.bool false) := hA5.cell 4
      have fz := hA5.frozen 4
      have hA6 : Hid (Blk (w5.setCell ⟨ga, 4, none⟩ (.bool false)) ga 48 (rowQ false true false false true true 5)) := hA5.put 4 (.bool false)
      have hW6 := Lib.hid (hW5.far (p := ⟨ga, 4, none⟩) (by show w.heap.size ≠ ga; omega) (.bool false))
      have hV6 := Lib.hid (hV5.far (p := ⟨ga, 4, none⟩) (by show w.heap.size + 1 ≠ ga; omega) (.bool false))
      have hb6 := Lib.hid (hb5w.setCell (p := ⟨ga, 4, none⟩) (by show w.heap.size ≤ ga; omega) (.bool false))
      clear HA HW HV HB hA5 hW5 hV5 hb5 hb5w c0 c1 c2 d0 d1 d2
      go_wp2_with fail
      go_roundw
      case rel => exact ⟨5, by omega, by omega, by first | rfl | go_num, hb6, hW6, hV6, hA6⟩
      case measure => simp [intOf]
    · go_wp2_with fail
      refine (holds_is nm 5 kw iw tw kw iv tv wr (by omega) (by omega) (by omega) true HH5.out).mono ?_
      rintro e w5 ⟨rfl, hb5⟩
      have hA5 := HA.out.below hb5 HA.out.lt
      have hW5 := HW.out.below hb5 HW.out.lt
      have hV5 := HV.out.below hb5 HV.out.lt
      have hb5w := below_next HB.out (Nat.le_refl _) hb5
      have cz : w5.cell? ⟨ga, 5, none⟩ = some (.bool false) := hA5.cell 5
      have fz := hA5.frozen 5
      have hA6 : Hid (Blk (w5.setCell ⟨ga, 5, none⟩ (.bool true)) ga 48 (rowQ false true false false true true 6)) := hA5.put 5 (.bool true)
      have hW6 := Lib.hid (hW5.far (p := ⟨ga, 5, none⟩) (by show w.heap.size ≠ ga; omega) (.bool true))
      have hV6 := Lib.hid (hV5.far (p := ⟨ga, 5, none⟩) (by show w.heap.size + 1 ≠ ga; omega) (.bool true))
      have hb6 := Lib.hid (hb5w.setCell (p := ⟨ga, 5, none⟩) (by show w.heap.size ≤ ga; omega) (.bool true))
      clear HA HW HV HB hA5 hW5 hV5 hb5 hb5w c0 c1 c2 d0 d1 d2
      go_wp2_with fail
      go_roundw
      case rel => exact ⟨6, by omega, by omega, by first | rfl | go_num, hb6, hW6, hV6, hA6⟩
      case measure => simp [intOf]
    · go_wp2_with fail
      refine (holds_is nm 6 kw iw tw kw iv tv wr (by omega) (by omega) (by omega) true HH6.out).mono ?_
      rintro e w5 ⟨rfl, hb5⟩
      have hA5 := HA.out.below hb5 HA.out.lt
      have hW5 := HW.out.below hb5 HW.out.lt
      have hV5 := HV.out.below hb5 HV.out.lt
      have hb5w := below_next HB.out (Nat.le_refl _) hb5
      have cz : w5.cell? ⟨ga, 6, none⟩ = some (.bool false) := hA5.cell 6
      have fz := hA5.frozen 6
      have hA6 : Hid (Blk (w5.setCell ⟨ga, 6, none⟩ (.bool true)) ga 48 (rowQ false true false false true true 7)) := hA5.put 6 (.bool true)
      have hW6 := Lib.hid (hW5.far (p := ⟨ga, 6, none⟩) (by show w.heap.size ≠ ga; omega) (.bool true))
      have hV6 := Lib.hid (hV5.far (p := ⟨ga, 6, none⟩) (by show w.heap.size + 1 ≠ ga; omega) (.bool true))
      have hb6 := Lib.hid (hb5w.setCell (p := ⟨ga, 6, none⟩) (by show w.heap.size ≤ ga; omega) (.bool true))
      clear HA HW HV HB hA5 hW5 hV5 hb5 hb5w c0 c1 c2 d0 d1 d2
      go_wp2_with fail
      go_roundw
      case rel => exact ⟨7, by omega, by omega, by first | rfl | go_num, hb6, hW6, hV6, hA6⟩
      case measure => simp [intOf]
    · have hbn := HB
      have z1 : wr.cell? ⟨ga, 1, none⟩ = some (.bool false) := HA.out.cell 1
      have z2 : wr.cell? ⟨ga, 2, none⟩ = some (.bool true) := HA.out.cell 2
      have z3 : wr.cell? ⟨ga, 3, none⟩ = some (.bool false) := HA.out.cell 3
      have z4 : wr.cell? ⟨ga, 4, none⟩ = some (.bool false) := HA.out.cell 4
      have z5 : wr.cell? ⟨ga, 5, none⟩ = some (.bool true) := HA.out.cell 5
      have z6 : wr.cell? ⟨ga, 6, none⟩ = some (.bool true) := HA.out.cell 6
      clear HA HW HV HB
      have hG := eqGuardV
      go_wp2_with fail
      go_quiet (fail)
      have hbq := hbn.out.trans (below_drewN (Below.refl _ _) nq)
      generalize wr.drewN nq = w9 at *
      go_wp2_with fail
      go_ret
      exact ⟨rfl, hbq⟩
set_option maxRecDepth 100000 in
set_option maxHeartbeats 3200000 in
theorem turns_moreT (w : World) (nm : List UInt8) (iw kw : Int) (tv tw : List UInt8) (h1 : 1 ≤ nm.length) (h2 : nm.length ≤ 16) (h3 : tv.length ≤ 64) (h4 : tw.length ≤ 32) (hrv : Vals.right kw iw tv = true) (hrw : Vals.right kw iw tw = true) (ht : tv ≠ tw) (H1 : Preds.holds nm 1 kw iw tw kw iw tv = false) (H2 : Preds.holds nm 2 kw iw tw kw iw tv = true) (H3 : Preds.holds nm 3 kw iw tw kw iw tv = false) (H4 : Preds.holds nm 4 kw iw tw kw iw tv = false) (H5 : Preds.holds nm 5 kw iw tw kw iw tv = true) (H6 : Preds.holds nm 6 kw iw tw kw iw tv = true) :
    Calls Try.prog 6 #[.string ⟨nm.toArray⟩, .agg #[.int .i64 kw, .int .i64 iw, .string ⟨tw.toArray⟩], .agg #[.int .i64 kw, .int .i64 iw, .string ⟨tv.toArray⟩]] w fun e w' => e = .returned (.bool true) ∧ Below w.heap.size w w' := by
  have q1 : decide ((nm.length : Int) < 1) = false := by simp; omega
  have q2 : decide ((16 : Int) < (nm.length : Int)) = false := by simp; omega
  have q3 : decide ((64 : Int) < (tv.length : Int)) = false := by simp; omega
  have q4 : decide ((32 : Int) < (tw.length : Int)) = false := by simp; omega
  have et : (tv == tw) = false := by simpa using ht
  clear ht
  have HRV := Lib.hid hrv
  have HRW := Lib.hid hrw
  have HH1 := Lib.hid H1
  have HH2 := Lib.hid H2
  have HH3 := Lib.hid H3
  have HH4 := Lib.hid H4
  have HH5 := Lib.hid H5
  have HH6 := Lib.hid H6
  clear hrv hrw h1 H1 H2 H3 H4 H5 H6
  obtain ⟨hW, hV, hb0⟩ := box3x2 w 23 (.int .i64 kw) (.int .i64 iw) (.string ⟨tw.toArray⟩) (.int .i64 kw) (.int .i64 iw) (.string ⟨tv.toArray⟩)
  go_enter Try.func6, Try.ntmps6
  go_wp2_with fail
  generalize (w.alloc (.cells #[.int .i64 kw, .int .i64 iw, .string ⟨tw.toArray⟩] 23)).alloc (.cells #[.int .i64 kw, .int .i64 iw, .string ⟨tv.toArray⟩] 23) = w0 at *
  refine (small_any w0).mono ?_
  rintro e w1 ⟨rfl, hb1⟩
  replace hW := hW.below hb1 hW.lt
  replace hV := hV.below hb1 hV.lt
  have hbw := below_next hb0 (Nat.le_refl _) hb1
  clear hb0 hb1
  obtain ⟨c0, c1, c2, _, _, _⟩ := blk3 hW
  obtain ⟨d0, d1, d2, _, _, _⟩ := blk3 hV
  go_wp2_with fail
  refine (right_is kw iw tv w1 (by omega) true HRV.out).mono ?_
  rintro e w2 ⟨rfl, hb2⟩
  replace hW := hW.below hb2 hW.lt
  replace hV := hV.below hb2 hV.lt
  replace hbw := below_next hbw (Nat.le_refl _) hb2
  clear hb2 c0 c1 c2 d0 d1 d2
  obtain ⟨c0, c1, c2, _, _, _⟩ := blk3 hW
  go_wp2_with fail
  refine (right_is kw iw tw w2 (by omega) true HRW.out).mono ?_
  rintro e w3 ⟨rfl, hb2⟩
  replace hW := hW.below hb2 hW.lt
  replace hV := hV.below hb2 hV.lt
  replace hbw := below_next hbw (Nat.le_refl _) hb2
  clear hb2 c0 c1 c2
  clear q1 q2 q3 q4
  go_wp2_with fail
  have hA : Blk (w3.alloc (.cells #[.bool false, .bool false, .bool false, .bool false, .bool false, .bool false, .bool false, .bool false, .bool false] 48)) w3.heap.size 48 (rowQ false true false false true true 1) := Blk.new w3 _ _
  have hb4 : Below w3.heap.size w3 (w3.alloc (.cells #[.bool false, .bool false, .bool false, .bool false, .bool false, .bool false, .bool false, .bool false, .bool false] 48)) := (Below.refl _ _).alloc (Nat.le_refl _) _
  have hgl : w.heap.size + 1 < w3.heap.size := hV.lt
  replace hW := hW.below hb4 hW.lt
  replace hV := hV.below hb4 hV.lt
  replace hbw := below_next hbw (Nat.le_refl _) hb4
  clear hb4
  generalize w3.heap.size = ga at *
  generalize w3.alloc (.cells #[.bool false, .bool false, .bool false, .bool false, .bool false, .bool false, .bool false, .bool false, .bool false] 48) = w4 at *
  go_loopw [9] (fun x wr => ∃ q : Nat, 1 ≤ q ∧ q ≤ 7 ∧ x = .int .i64 (q : Int) ∧ Hid (Below w.heap.size w wr) ∧ Hid (Blk wr w.heap.size 23 #[.int .i64 kw, .int .i64 iw, .string ⟨tw.toArray⟩]) ∧ Hid (Blk wr (w.heap.size + 1) 23 #[.int .i64 kw, .int .i64 iw, .string ⟨tv.toArray⟩]) ∧ Hid (Blk wr ga 48 (rowQ false true false false true true q))) (fun x _ => 7 - (intOf x).toNat)
  case atStart => exact ⟨1, by omega, by omega, rfl, hbw, hW, hV, hA⟩
  case round =>
    clear hbw hW hV hA
    obtain ⟨q, hq1, hq2, rfl, HB, HW, HV, HA⟩ := hrel
    obtain ⟨c0, c1, c2, _, _, _⟩ := blk3 HW.out
    obtain ⟨d0, d1, d2, _, _, _⟩ := blk3 HV.out
    have h7 : q = 1 ∨ q = 2 ∨ q = 3 ∨ q = 4 ∨ q = 5 ∨ q = 6 ∨ q = 7 := by omega
    clear hq1 hq2
    rcases h7 with rfl | rfl | rfl | rfl | rfl | rfl | rfl
    · go_wp2_with fail
      refine (holds_is nm 1 kw iw tw kw iw tv wr (by omega) (by omega) (by omega) false HH1.out).mono ?_
      rintro e w5 ⟨rfl, hb5⟩
      have hA5 := HA.out.below hb5 HA.out.lt
      have hW5 := HW.out.below hb5 HW.out.lt
      have hV5 := HV.out.below hb5 HV.out.lt
      have hb5w := below_next HB.out (Nat.le_refl _) hb5
      have cz : w5.cell? ⟨ga, 1, none⟩ = some (.bool false) := hA5.cell 1
      have fz := hA5.frozen 1
      have hA6 : Hid (Blk (w5.setCell ⟨ga, 1, none⟩ (.bool false)) ga 48 (rowQ false true false false true true 2)) := hA5.put 1 (.bool false)
      have hW6 := Lib.hid (hW5.far (p := ⟨ga, 1, none⟩) (by show w.heap.size ≠ ga; omega) (.bool false))
      have hV6 := Lib.hid (hV5.far (p := ⟨ga, 1, none⟩) (by show w.heap.size + 1 ≠ ga; omega) (.bool false))
      have hb6 := Lib.hid (hb5w.setCell (p := ⟨ga, 1, none⟩) (by show w.heap.size ≤ ga; omega) (.bool false))
      clear HA HW HV HB hA5 hW5 hV5 hb5 hb5w c0 c1 c2 d0 d1 d2
      go_wp2_with fail
      go_roundw
      case rel => exact ⟨2, by omega, by omega, by first | rfl | go_num, hb6, hW6, hV6, hA6⟩
      case measure => simp [intOf]
    · go_wp2_with fail
      refine (holds_is nm 2 kw iw tw kw iw tv wr (by omega) (by omega) (by omega) true HH2.out).mono ?_
      rintro e w5 ⟨rfl, hb5⟩
      have hA5 := HA.out.below hb5 HA.out.lt
      have hW5 := HW.out.below hb5 HW.out.lt
      have hV5 := HV.out.below hb5 HV.out.lt
      have hb5w := below_next HB.out (Nat.le_refl _) hb5
      have cz : w5.cell? ⟨ga, 2, none⟩ = some (.bool false) := hA5.cell 2
      have fz := hA5.frozen 2
      have hA6 : Hid (Blk (w5.setCell ⟨ga, 2, none⟩ (.bool true)) ga 48 (rowQ false true false false true true 3)) := hA5.put 2 (.bool true)
      have hW6 := Lib.hid (hW5.far (p := ⟨ga, 2, none⟩) (by show w.heap.size ≠ ga; omega) (.bool true))
      have hV6 := Lib.hid (hV5.far (p := ⟨ga, 2, none⟩) (by show w.heap.size + 1 ≠ ga; omega) (.bool true))
      have hb6 := Lib.hid (hb5w.setCell (p := ⟨ga, 2, none⟩) (by show w.heap.size ≤ ga; omega) (.bool true))
      clear HA HW HV HB hA5 hW5 hV5 hb5 hb5w c0 c1 c2 d0 d1 d2
      go_wp2_with fail
      go_roundw
      case rel => exact ⟨3, by omega, by omega, by first | rfl | go_num, hb6, hW6, hV6, hA6⟩
      case measure => simp [intOf]
    · go_wp2_with fail
      refine (holds_is nm 3 kw iw tw kw iw tv wr (by omega) (by omega) (by omega) false HH3.out).mono ?_
      rintro e w5 ⟨rfl, hb5⟩
      have hA5 := HA.out.below hb5 HA.out.lt
      have hW5 := HW.out.below hb5 HW.out.lt
      have hV5 := HV.out.below hb5 HV.out.lt
      have hb5w := below_next HB.out (Nat.le_refl _) hb5
      have cz : w5.cell? ⟨ga, 3, none⟩ = some (.bool false) := hA5.cell 3
      have fz := hA5.frozen 3
      have hA6 : Hid (Blk (w5.setCell ⟨ga, 3, none⟩ (.bool false)) ga 48 (rowQ false true false false true true 4)) := hA5.put 3 (.bool false)
      have hW6 := Lib.hid (hW5.far (p := ⟨ga, 3, none⟩) (by show w.heap.size ≠ ga; omega) (.bool false))
      have hV6 := Lib.hid (hV5.far (p := ⟨ga, 3, none⟩) (by show w.heap.size + 1 ≠ ga; omega) (.bool false))
      have hb6 := Lib.hid (hb5w.setCell (p := ⟨ga, 3, none⟩) (by show w.heap.size ≤ ga; omega) (.bool false))
      clear HA HW HV HB hA5 hW5 hV5 hb5 hb5w c0 c1 c2 d0 d1 d2
      go_wp2_with fail
      go_roundw
      case rel => exact ⟨4, by omega, by omega, by first | rfl | go_num, hb6, hW6, hV6, hA6⟩
      case measure => simp [intOf]
    · go_wp2_with fail
      refine (holds_is nm 4 kw iw tw kw iw tv wr (by omega) (by omega) (by omega) false HH4.out).mono ?_
      rintro e w5 ⟨rfl, hb5⟩
      have hA5 := HA.out.below hb5 HA.out.lt
      have hW5 := HW.out.below hb5 HW.out.lt
      have hV5 := HV.out.below hb5 HV.out.lt
      have hb5w := below_next HB.out (Nat.le_refl _) hb5
      have cz : w5.cell? ⟨ga, 4, none⟩ = some (.bool false) := hA5.cell 4
      have fz := hA5.frozen 4
      have hA6 : Hid (Blk (w5.setCell ⟨ga, 4, none⟩ (.bool false)) ga 48 (rowQ false true false false true true 5)) := hA5.put 4 (.bool false)
      have hW6 := Lib.hid (hW5.far (p := ⟨ga, 4, none⟩) (by show w.heap.size ≠ ga; omega) (.bool false))
      have hV6 := Lib.hid (hV5.far (p := ⟨ga, 4, none⟩) (by show w.heap.size + 1 ≠ ga; omega) (.bool false))
      have hb6 := Lib.hid (hb5w.setCell (p := ⟨ga, 4, none⟩) (by show w.heap.size ≤ ga; omega) (.bool false))
      clear HA HW HV HB hA5 hW5 hV5 hb5 hb5w c0 c1 c2 d0 d1 d2
      go_wp2_with fail
      go_roundw
      case rel => exact ⟨5, by omega, by omega, by first | rfl | go_num, hb6, hW6, hV6, hA6⟩
      case measure => simp [intOf]
    · go_wp2_with fail
      refine (holds_is nm 5 kw iw tw kw iw tv wr (by omega) (by omega) (by omega) true HH5.out).mono ?_
      rintro e w5 ⟨rfl, hb5⟩
      have hA5 := HA.out.below hb5 HA.out.lt
      have hW5 := HW.out.below hb5 HW.out.lt
      have hV5 := HV.out.below hb5 HV.out.lt
      have hb5w := below_next HB.out (Nat.le_refl _) hb5
      have cz : w5.cell? ⟨ga, 5, none⟩ = some (.bool false) := hA5.cell 5
      have fz := hA5.frozen 5
      have hA6 : Hid (Blk (w5.setCell ⟨ga, 5, none⟩ (.bool true)) ga 48 (rowQ false true false false true true 6)) := hA5.put 5 (.bool true)
      have hW6 := Lib.hid (hW5.far (p := ⟨ga, 5, none⟩) (by show w.heap.size ≠ ga; omega) (.bool true))
      have hV6 := Lib.hid (hV5.far (p := ⟨ga, 5, none⟩) (by show w.heap.size + 1 ≠ ga; omega) (.bool true))
      have hb6 := Lib.hid (hb5w.setCell (p := ⟨ga, 5, none⟩) (by show w.heap.size ≤ ga; omega) (.bool true))
      clear HA HW HV HB hA5 hW5 hV5 hb5 hb5w c0 c1 c2 d0 d1 d2
      go_wp2_with fail
      go_roundw
      case rel => exact ⟨6, by omega, by omega, by first | rfl | go_num, hb6, hW6, hV6, hA6⟩
      case measure => simp [intOf]
    · go_wp2_with fail
      refine (holds_is nm 6 kw iw tw kw iw tv wr (by omega) (by omega) (by omega) true HH6.out).mono ?_
      rintro e w5 ⟨rfl, hb5⟩
      have hA5 := HA.out.below hb5 HA.out.lt
      have hW5 := HW.out.below hb5 HW.out.lt
      have hV5 := HV.out.below hb5 HV.out.lt
      have hb5w := below_next HB.out (Nat.le_refl _) hb5
      have cz : w5.cell? ⟨ga, 6, none⟩ = some (.bool false) := hA5.cell 6
      have fz := hA5.frozen 6
      have hA6 : Hid (Blk (w5.setCell ⟨ga, 6, none⟩ (.bool true)) ga 48 (rowQ false true false false true true 7)) := hA5.put 6 (.bool true)
      have hW6 := Lib.hid (hW5.far (p := ⟨ga, 6, none⟩) (by show w.heap.size ≠ ga; omega) (.bool true))
      have hV6 := Lib.hid (hV5.far (p := ⟨ga, 6, none⟩) (by show w.heap.size + 1 ≠ ga; omega) (.bool true))
      have hb6 := Lib.hid (hb5w.setCell (p := ⟨ga, 6, none⟩) (by show w.heap.size ≤ ga; omega) (.bool true))
      clear HA HW HV HB hA5 hW5 hV5 hb5 hb5w c0 c1 c2 d0 d1 d2
      go_wp2_with fail
      go_roundw
      case rel => exact ⟨7, by omega, by omega, by first | rfl | go_num, hb6, hW6, hV6, hA6⟩
      case measure => simp [intOf]
    · have hbn := HB
      have z1 : wr.cell? ⟨ga, 1, none⟩ = some (.bool false) := HA.out.cell 1
      have z2 : wr.cell? ⟨ga, 2, none⟩ = some (.bool true) := HA.out.cell 2
      have z3 : wr.cell? ⟨ga, 3, none⟩ = some (.bool false) := HA.out.cell 3
      have z4 : wr.cell? ⟨ga, 4, none⟩ = some (.bool false) := HA.out.cell 4
      have z5 : wr.cell? ⟨ga, 5, none⟩ = some (.bool true) := HA.out.cell 5
      have z6 : wr.cell? ⟨ga, 6, none⟩ = some (.bool true) := HA.out.cell 6
      clear HA HW HV HB
      have hG := eqGuardV
      go_wp2_with fail
      go_quiet (fail)
      have hbq := hbn.out.trans (below_drewN (Below.refl _ _) nq)
      generalize wr.drewN nq = w9 at *
      go_wp2_with fail
      go_ret
      exact ⟨rfl, hbq⟩
theorem ord_right (nm : List UInt8) (o k i : Int) (t : List UInt8) (h1 : 1 ≤ nm.length) (h2 : nm.length ≤ 16) (h3 : Vals.right k i t = true) (h4 : t.length ≤ 32) (ho : 1 ≤ o) (ho2 : o ≤ 6) : Preds.right nm o k i t = true := by
  unfold Preds.right
  rw [Preds.asks_of (by omega) (by omega) (by omega) h3 h4 (fun e => by omega)]
  simp [h1, h2]
theorem ord_kind (nm : List UInt8) (o k i : Int) (t : List UInt8) (k' i' : Int) (t' : List UInt8) (h1 : 1 ≤ nm.length) (h2 : nm.length ≤ 16) (h3 : Vals.right k i t = true) (h4 : t.length ≤ 32) (h5 : Vals.right k' i' t' = true) (hk : k' ≠ k) (ho : 1 ≤ o) (ho2 : o ≤ 6) : Preds.holds nm o k i t k' i' t' = false := by
  unfold Preds.holds Preds.met
  rw [ord_right nm o k i t h1 h2 h3 h4 ho ho2, h5, if_neg (by omega), decide_eq_false hk]; rfl
theorem ord_is (nm : List UInt8) (o k i : Int) (t : List UInt8) (i' : Int) (t' : List UInt8) (h1 : 1 ≤ nm.length) (h2 : nm.length ≤ 16) (h3 : Vals.right k i t = true) (h4 : t.length ≤ 32) (h5 : Vals.right k i' t' = true) (z : Int) (hz : Vals.cmp k i' t' k i t = z) (b : Bool) (hb : Preds.allows o z = b) (ho : 1 ≤ o) (ho2 : o ≤ 6) : Preds.holds nm o k i t k i' t' = b := by
  unfold Preds.holds Preds.met
  rw [ord_right nm o k i t h1 h2 h3 h4 ho ho2, h5, if_neg (by omega), if_neg (by omega), decide_eq_true rfl, hz, hb]; simp
theorem walk_PredTurns (w : World) (nm : List UInt8) (hn : nm.length ≤ maxLen) (kw iw : Int) (tw : List UInt8) (_ : (Lit.int .i64 kw).wf = true) (_ : (Lit.int .i64 iw).wf = true) (hlw : tw.length ≤ maxLen) (kv iv : Int) (tv : List UInt8) (_ : (Lit.int .i64 kv).wf = true) (_ : (Lit.int .i64 iv).wf = true) (hlv : tv.length ≤ maxLen) :
    Calls Try.prog 6 #[.string ⟨nm.toArray⟩, .agg #[.int .i64 kw, .int .i64 iw, .string ⟨tw.toArray⟩], .agg #[.int .i64 kv, .int .i64 iv, .string ⟨tv.toArray⟩]] w fun e w' => e = .returned (.bool true) ∧ Below w.heap.size w w' := by
  rw [maxLen_num] at hn hlw hlv
  by_cases h : nm.length < 1 ∨ 16 < nm.length ∨ 64 < tv.length ∨ 32 < tw.length
  · exact turns_out w nm kw iw tw kv iv tv hn hlw hlv h
  · have h1 : 1 ≤ nm.length := by omega
    have h2 : nm.length ≤ 16 := by omega
    have h3 : tv.length ≤ 64 := by omega
    have h4 : tw.length ≤ 32 := by omega
    cases hrv : Vals.right kv iv tv with
    | false => exact turns_v w nm kw iw tw kv iv tv hn hlw hlv h1 h2 h3 h4 hrv
    | true =>
      cases hrw : Vals.right kw iw tw with
      | false => exact turns_w w nm kw iw tw kv iv tv hn hlw hlv h1 h2 h3 h4 hrv hrw
      | true =>
        by_cases hk : kv = kw
        · subst hk
          have hX := fun (o : Int) (z : Int) (hz : Vals.cmp kv iv tv kv iw tw = z) (b : Bool) (hb : Preds.allows o z = b) (ho : 1 ≤ o) (ho2 : o ≤ 6) => ord_is nm o kv iw tw iv tv h1 h2 hrw h4 hrv z hz b hb ho ho2
          have hbd := Vals.cmp_bd kv iv tv kv iw tw
          have h3' : Vals.cmp kv iv tv kv iw tw = -1 ∨ Vals.cmp kv iv tv kv iw tw = 0 ∨ Vals.cmp kv iv tv kv iw tw = 1 := by omega
          rcases h3' with hz | hz | hz
          · by_cases hi : iv = iw
            · subst hi
              have ht : tv ≠ tw := by rintro rfl; rw [(Vals.cmp_zero kv iv tv kv iv tv).2 ⟨rfl, rfl, rfl⟩] at hz; omega
              exact turns_lessT w nm iv kv tv tw h1 h2 h3 h4 hrv hrw ht (hX 1 _ hz _ rfl (by decide) (by decide)) (hX 2 _ hz _ rfl (by decide) (by decide)) (hX 3 _ hz _ rfl (by decide) (by decide)) (hX 4 _ hz _ rfl (by decide) (by decide)) (hX 5 _ hz _ rfl (by decide) (by decide)) (hX 6 _ hz _ rfl (by decide) (by decide))
            · exact turns_lessI w nm iv iw kv tv tw h1 h2 h3 h4 hrv hrw hi (hX 1 _ hz _ rfl (by decide) (by decide)) (hX 2 _ hz _ rfl (by decide) (by decide)) (hX 3 _ hz _ rfl (by decide) (by decide)) (hX 4 _ hz _ rfl (by decide) (by decide)) (hX 5 _ hz _ rfl (by decide) (by decide)) (hX 6 _ hz _ rfl (by decide) (by decide))
          · obtain ⟨_, rfl, rfl⟩ := (Vals.cmp_zero kv iv tv kv iw tw).1 hz
            exact turns_same w nm iv kv tv h1 h2 h3 h4 hrv hrw (hX 1 _ hz _ rfl (by decide) (by decide)) (hX 2 _ hz _ rfl (by decide) (by decide)) (hX 3 _ hz _ rfl (by decide) (by decide)) (hX 4 _ hz _ rfl (by decide) (by decide)) (hX 5 _ hz _ rfl (by decide) (by decide)) (hX 6 _ hz _ rfl (by decide) (by decide))
          · by_cases hi : iv = iw
            · subst hi
              have ht : tv ≠ tw := by rintro rfl; rw [(Vals.cmp_zero kv iv tv kv iv tv).2 ⟨rfl, rfl, rfl⟩] at hz; omega
              exact turns_moreT w nm iv kv tv tw h1 h2 h3 h4 hrv hrw ht (hX 1 _ hz _ rfl (by decide) (by decide)) (hX 2 _ hz _ rfl (by decide) (by decide)) (hX 3 _ hz _ rfl (by decide) (by decide)) (hX 4 _ hz _ rfl (by decide) (by decide)) (hX 5 _ hz _ rfl (by decide) (by decide)) (hX 6 _ hz _ rfl (by decide) (by decide))
            · exact turns_moreI w nm iv iw kv tv tw h1 h2 h3 h4 hrv hrw hi (hX 1 _ hz _ rfl (by decide) (by decide)) (hX 2 _ hz _ rfl (by decide) (by decide)) (hX 3 _ hz _ rfl (by decide) (by decide)) (hX 4 _ hz _ rfl (by decide) (by decide)) (hX 5 _ hz _ rfl (by decide) (by decide)) (hX 6 _ hz _ rfl (by decide) (by decide))
        · have hX := fun (o : Int) (ho : 1 ≤ o) (ho2 : o ≤ 6) => ord_kind nm o kw iw tw kv iv tv h1 h2 hrw h4 hrv hk ho ho2
          exact turns_kind w nm iv iw kv kw tv tw h1 h2 h3 h4 hrv hrw hk (hX 1 (by decide) (by decide)) (hX 2 (by decide) (by decide)) (hX 3 (by decide) (by decide)) (hX 4 (by decide) (by decide)) (hX 5 (by decide) (by decide)) (hX 6 (by decide) (by decide))

/-! ### The row's step. -/
namespace predTurns
theorem own : ownKnob Try.prog.godebug = none := by kernel_rfl
theorem laidOut : laidOutB Try.prog = true := by kernel_rfl
set_option linter.unusedVariables false in
set_option maxRecDepth 100000 in
theorem lifted (os : Os) (started : os.Started) (H : Type) (enc : TypeId × Value → H) :
    ReturnsInHanded {} Try.checked os 6 .any (Rows.predTurnsSpec.pre6 enc Try.prog Try.f6 Rows.predTurnsRow.domain false) (Rows.predTurnsSpec.post enc Try.prog Try.f6 false true false false) := by
  refine returnsInHanded_of_change_sized (C := Try.checked) own started (by kernel_rfl) Try.func6
    (ChangeSpec.witness6 (enc := enc) (C := Try.checked) false ⟨#[], #[.string ⟨#[]⟩, .agg #[.int .i64 0, .int .i64 0, .string ⟨#[]⟩], .agg #[.int .i64 0, .int .i64 0, .string ⟨#[]⟩]], []⟩ 8 (by kernel_rfl) (by kernel_rfl) (by kernel_rfl) (by kernel_rfl)) ?_
  intro W base args ds gs before hval0 hW hcnd hsz0 _
  have hval : ∀ (j : Nat) t v, Try.f6.params[j]? = some t → args[j]? = some v → Value.okWide Try.prog W .any base t v := hval0
  have hsz : (DataW.weightsEach Try.prog (Try.f6.params.toList ++ Rows.predTurnsSpec.plain.varTypes Try.prog) (ds ++ gs)).all (· ≤ reachBytes) = true := hsz0
  have hW' := hW
  obtain ⟨p, q, hA0, hV, rfl, hfz, hnd⟩ := hW
  have hA : DataW.TrodAll enc Try.prog W 0 (fun _ => true) true Try.f6.params.toList args.toList ds p := hA0
  rw [Try.params6] at hA hval hsz
  obtain ⟨v0, vs0, d0, ds0, p0, q0, hargs, rfl, rfl, h0, r0⟩ := trodAll_cons hA
  obtain ⟨v1, vs1, d1, ds1, p1, q1, rfl, rfl, rfl, h1, r1⟩ := trodAll_cons r0
  obtain ⟨v2, vs2, d2, ds2, p2, q2, rfl, rfl, rfl, h2, r2⟩ := trodAll_cons r1
  obtain ⟨rfl, rfl, rfl⟩ := trodAll_nil r2
  obtain rfl : args = #[v0, v1, v2] := by cases args; simp_all
  obtain ⟨rfl, rfl⟩ := trodVars_none hV
  obtain ⟨⟨⟨a0⟩⟩, rfl, rfl, rfl, w0⟩ := Go.ChangeMaps.open_string Try.underlying9 (hval 0 9 v0 rfl rfl) h0
  obtain ⟨kk1, ii1, ss1, rfl, wk1, wi1, ws1⟩ := open_val_of Try.underlying23 (by kernel_rfl) (by kernel_rfl) Try.underlying3 Try.underlying3 Try.underlying9 (hval 1 23 v1 rfl rfl) h1
  have k1 := h1
  have lt1 : ∀ x ∈ p1, x.block < W.heap.size := by obtain ⟨m, hm⟩ := k1; exact DataW.trod_lt m _ _ _ hm
  obtain ⟨kk2, ii2, ss2, rfl, wk2, wi2, ws2⟩ := open_val_of Try.underlying23 (by kernel_rfl) (by kernel_rfl) Try.underlying3 Try.underlying3 Try.underlying9 (hval 2 23 v2 rfl rfl) h2
  have k2 := h2
  have lt2 : ∀ x ∈ p2, x.block < W.heap.size := by obtain ⟨m, hm⟩ := k2; exact DataW.trod_lt m _ _ _ hm
  clear hA0 hval0
  refine (walk_PredTurns W a0 w0 kk1 ii1 ss1 wk1 wi1 ws1 kk2 ii2 ss2 wk2 wi2 ws2).mono fun e W' ⟨he, bel⟩ => ?_
  subst he
  exact ⟨_, rfl, _, _, _, [], _, [], hW', trodAll_mk1 (shut_bool Try.underlying4 _), (trodAll_cons_mk (Go.ChangeMaps.shut_string Try.underlying9 w0) (trodAll_cons_mk (Below.trod laidOut (by kernel_rfl) (of_decide_eq_true (by kernel_rfl)) k1 bel lt1) (trodAll_cons_mk (Below.trod laidOut (by kernel_rfl) (of_decide_eq_true (by kernel_rfl)) k2 bel lt2) trodAll_mk0))), rfl, bel.frame _, fun h => by cases h⟩
theorem over : Rows.predTurnsRow.holds Try.pinned (OpenSpec.ofChange Rows.predTurnsSpec) :=
  OpenClaim.holds_of_wide 6 Try.f6 rfl rfl rfl rfl rfl rfl rfl ⟨rfl, rfl, rfl, rfl, rfl⟩ rfl rfl rfl rfl rfl (by kernel_rfl) Try.func6 (by kernel_rfl)
    (of_decide_eq_true (by kernel_rfl)) (by unfold Func.isWrapper; first | (rw [if_pos (by decide +kernel)]; kernel_rfl) | (rw [if_neg (by decide +kernel)]; exact ⟨rfl, rfl⟩))
    (fun os started H enc _ => lifted os started H enc)
end predTurns
/-- THE STATEMENT. -/
theorem predTurns_holds : Rows.PredTurnsSaid := predTurns.over
#print axioms predTurns_holds
end Go.Proofs.Ytcmjekchfgnbdaa
