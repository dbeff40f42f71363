/-
  Numbers, ints and texts as bytes: for all bytes ahead, every number, every int and every text, the call of the law answers true, and all arguments read behind it as they read before. No condition.
-/
import Derived.Test.YtgadpdjhnlblaaaWRef
import Derived.Test.YtgadpdjhnlblaaaArgs
namespace Go.Proofs.Ytgadpdjhnlblaaa
open Go.RowKit Go.ChangeShapes Go.WideShapes Go.ChangeAt
set_option maxRecDepth 100000 in
set_option maxHeartbeats 800000 in
theorem lays_out (w : World) (A : Option Addr) (ss : List UInt8) (len cap k : Nat) (n i : Int) (hk : ss.length = k) (hkm : k ≤ 9223372036854775807) (h : 300 < len ∨ 300 < k) :
    Calls Try.prog 3 #[.slice A len cap, .int .u64 n, .int .i64 i, .string ⟨ss.toArray⟩] w fun e w' => e = .returned (.bool true) ∧ Below w.heap.size w w' := by
  have hsz : (⟨ss.toArray⟩ : ByteArray).size = k := hk
  clear hk
  go_enter Try.func3, Try.ntmps3
  go_wp2_with fail
  refine (small_any _).mono ?_
  rintro e w1 ⟨rfl, hb1⟩
  by_cases h1 : (300 : Int) < (len : Int)
  · have hd1 : decide ((300 : Int) < (len : Int)) = true := by simpa using h1
    go_wp2_with fail
    go_ret
    exact ⟨rfl, hb1⟩
  · have hd1 : decide ((300 : Int) < (len : Int)) = false := by simpa using h1
    have hd3 : decide ((300 : Int) < (k : Int)) = true := by simp; omega
    go_wp2_with fail
    go_ret
    exact ⟨rfl, hb1⟩
set_option maxRecDepth 100000 in
set_option maxHeartbeats 3200000 in
theorem lays_in (w : World) (A : Option Addr) (bs ss : List UInt8) (len cap k m : Nat) (i : Int) (hl : bs.length = len) (hk : ss.length = k) (h1 : len ≤ 300) (h2 : k ≤ 300) (rd : Rd w A bs) (hm : m < 2 ^ 64) (hi1 : -9223372036854775808 ≤ i) (hi2 : i ≤ 9223372036854775807) :
    Calls Try.prog 3 #[.slice A len cap, .int .u64 (m : Int), .int .i64 i, .string ⟨ss.toArray⟩] w fun e w' => e = .returned (.bool true) ∧ Below w.heap.size w w' := by
  obtain ⟨i0, hi0, hz0, hz1, hz2⟩ := info_parts byte_info
  have hsz : (⟨ss.toArray⟩ : ByteArray).size = k := hk
  have HL := Lib.hid hl
  have HK := Lib.hid hk
  have HM := Lib.hid hm
  have HI := Lib.hid (And.intro hi1 hi2)
  have hd1 : decide ((300 : Int) < (len : Int)) = false := by simp; omega
  have hd2 : decide ((300 : Int) < (k : Int)) = false := by simp; omega
  have hp1 := Wire.put_len_le m hm
  have hp2 := Wire.put_len_le _ (Wire.zig_lt i hi1 hi2)
  have hp3 : (Wire.text ss).length ≤ 310 := by
    have := Wire.put_len_le k (by omega)
    unfold Wire.text
    rw [List.length_append, hk]; omega
  clear hl hk hm hi1 hi2
  have hmk := fun W => run_make (P := Try.prog) W 22 5 i0 _ Try.underlying22 hi0 hz0 .i64 .i64 len (len + 40) (by omega) (by omega) (by rw [hz2]; omega) (by omega)
  obtain ⟨Z, hZ⟩ : ∃ Z : List Value, Z = (madeCells #[Value.int IntKind.u8 0] (len + 40)).toList := ⟨_, rfl⟩
  have HZ := Lib.hid hZ
  clear hZ
  have hZl : Z.length = len + 40 := by rw [HZ.out]; simp [size_madeCells]
  have HZl := Lib.hid hZl
  clear hZl
  obtain ⟨L1, hL1⟩ : ∃ L1, len + (Wire.put m).length = L1 := ⟨_, rfl⟩
  obtain ⟨L2, hL2⟩ : ∃ L2, len + (Wire.put (Wire.zig i)).length = L2 := ⟨_, rfl⟩
  obtain ⟨L3, hL3⟩ : ∃ L3, len + (Wire.text ss).length = L3 := ⟨_, rfl⟩
  have hb1 : L1 ≤ 310 := by omega
  have hb2 : L2 ≤ 310 := by omega
  have hb3 : L3 ≤ 610 := by omega
  have H1 := Lib.hid hL1
  have H2 := Lib.hid hL2
  have H3 := Lib.hid hL3
  clear hL1 hL2 hL3 hp1 hp2 hp3
  go_enter Try.func3, Try.ntmps3
  go_wp2_with fail
  refine (small_any _).mono ?_
  rintro e w1 ⟨rfl, hbw1⟩
  have hr1 : ∀ o : Obj, Rd (w1.alloc o) A bs := fun o => rd.below (hbw1.alloc hbw1.size o)
  go_wp2_with (refine wpList_copy_rd rfl (.tmp 32) (.tmp 33) 22 22 rfl 5 Try.underlying22 (by kernel_rfl) w1.heap.size len (len + 40) A len cap (by rfl) (by rfl) bs (hr1 _) (by rw [HL.out]; simp) Z 5 (by rw [HZ.out]; exact heap_alloc_new _ _) (by rw [HZl.out, HL.out]; omega) ?_; intro w2 hB2 hb2')
  have hbw2 := hb2' w.heap.size w (hbw1.alloc hbw1.size _) hbw1.size
  have hrs : Rd w2 (some ⟨w1.heap.size, 0, none⟩) bs := by
    refine .inr ⟨w1.heap.size, 0, rfl, hB2.lt, fun j hj => ?_⟩
    rw [Nat.zero_add, hB2.cell]
    simp [List.getElem?_append_left, hj, Bv]
  have hg0 : w.heap.size ≤ w1.heap.size := hbw1.size
  have hg0l := hB2.lt
  generalize w1.heap.size = g0 at *
  clear hb2' hB2 hr1 hmk hbw1
  refine (put_at _ bs len (len + 40) m L1 HL.out H1.out HM.out (by omega) _ hrs).mono ?_
  rintro e w3 ⟨gx, rfl, hgx, hb3w, hBx⟩
  replace hrs := hrs.below hb3w
  have hz2w := hbw2.size
  replace hb3w := below_next hbw2 (Nat.le_refl _) hb3w
  have hgxw : w.heap.size ≤ gx := by omega
  have hx0 : gx ≠ g0 := by omega
  clear hbw2 hz2w
  go_wp2_with fail
  refine (putInt_at _ bs len (len + 40) L2 i HL.out H2.out HI.out.1 HI.out.2 (by omega) _ hrs).mono ?_
  rintro e w4 ⟨gy, rfl, hgy, hb4w, hBy⟩
  replace hrs := hrs.below hb4w
  have hlx := hBx.lt
  replace hBx := hBx.below hb4w hBx.lt
  replace hb4w := below_next hb3w (Nat.le_refl _) hb4w
  have hxy : gx ≠ gy := by omega
  clear hb3w hgx
  go_wp2_with fail
  refine (putText_at _ bs ss len (len + 40) k L3 HL.out HK.out H3.out (by omega) _ hrs).mono ?_
  rintro e w5 ⟨gz, rfl, hgz, hb5w, hBz⟩
  replace hrs := hrs.below hb5w
  have hlx2 := hBx.lt
  replace hBx := hBx.below hb5w hBx.lt
  replace hBy := hBy.below hb5w hBy.lt
  replace hb5w := below_next hb4w (Nat.le_refl _) hb5w
  have hxz : gx ≠ gz := by omega
  clear hb4w hgy hgz hlx hlx2
  have HA : Hid ((bs ++ Wire.put m).length = L1) := by show _ = _; rw [List.length_append, HL.out]; exact H1.out
  have HB : Hid ((bs ++ Wire.put (Wire.zig i)).length = L2) := by show _ = _; rw [List.length_append, HL.out]; exact H2.out
  have HC : Hid ((bs ++ Wire.text ss).length = L3) := by show _ = _; rw [List.length_append, HL.out]; exact H3.out
  have hkeep : Hid (∀ w', Below w5.heap.size w5 w' → Below w5.heap.size w5 w' ∧ Sem.run Try.prog (convert 22 9 (.slice (some ⟨gx, 0, none⟩) L1 L1)) w' = .ok (.string ⟨(bs ++ Wire.put m).toArray⟩) w' ∧ Sem.run Try.prog (convert 22 9 (.slice (some ⟨gy, 0, none⟩) L2 L2)) w' = .ok (.string ⟨(bs ++ Wire.put (Wire.zig i)).toArray⟩) w' ∧ Sem.run Try.prog (convert 22 9 (.slice (some ⟨gz, 0, none⟩) L3 L3)) w' = .ok (.string ⟨(bs ++ Wire.text ss).toArray⟩) w') := fun w' h => ⟨h, str_below L1 hBx.rd HA.out h, str_below L2 hBy.rd HB.out h, str_below L3 hBz.rd HC.out h⟩
  have hS0 := hkeep.out w5.drew (Below.refl _ _).drew
  go_wp2_with fail
  refine wp_region_held_drew (S := fun w' => Below w5.heap.size w5 w' ∧ Sem.run Try.prog (convert 22 9 (.slice (some ⟨gx, 0, none⟩) L1 L1)) w' = .ok (.string ⟨(bs ++ Wire.put m).toArray⟩) w' ∧ Sem.run Try.prog (convert 22 9 (.slice (some ⟨gy, 0, none⟩) L2 L2)) w' = .ok (.string ⟨(bs ++ Wire.put (Wire.zig i)).toArray⟩) w' ∧ Sem.run Try.prog (convert 22 9 (.slice (some ⟨gz, 0, none⟩) L3 L3)) w' = .ok (.string ⟨(bs ++ Wire.text ss).toArray⟩) w') (by kernel_rfl) hS0 (fun _ => ?_)
  refine wpAnyH_yes (i := 0) (d := 44) (v := ?_) rfl rfl (by kernel_rfl) (by kernel_rfl) (by kernel_rfl) (fun _ _ _ h => h) (by rfl) ?_ hS0 ?_
  rotate_left
  · intro w' hSw; go_simp <;> with_reducible rfl
  simp only [Act.put, List.setIfInBounds_toArray, List.set_cons_zero, List.set_cons_succ]
  refine wpAnyH_yes (i := 1) (d := 45) (v := ?_) rfl rfl (by kernel_rfl) (by kernel_rfl) (by kernel_rfl) (fun _ _ _ h => h) (by rfl) ?_ hS0 ?_
  rotate_left
  · intro w' hSw; go_simp <;> with_reducible rfl
  simp only [Act.put, List.setIfInBounds_toArray, List.set_cons_zero, List.set_cons_succ]
  refine wpAnyH_yes (i := 2) (d := 46) (v := ?_) rfl rfl (by kernel_rfl) (by kernel_rfl) (by kernel_rfl) (fun _ _ _ h => h) (by rfl) ?_ hS0 ?_
  rotate_left
  · intro w' hSw; go_simp <;> with_reducible rfl
  simp only [Act.put, List.setIfInBounds_toArray, List.set_cons_zero, List.set_cons_succ]
  refine wpAnyH_yes (i := 3) (d := 47) (v := ?_) rfl rfl (by kernel_rfl) (by kernel_rfl) (by kernel_rfl) (fun _ _ _ h => h) (by rfl) ?_ hS0 ?_
  rotate_left
  · intro w' hSw; go_simp <;> with_reducible rfl
  simp only [Act.put, List.setIfInBounds_toArray, List.set_cons_zero, List.set_cons_succ]
  refine wpAnyH_one (i := 4) (by kernel_rfl) rfl (by rfl) (fun K hK1 => ?_)
  go_simp
  with_reducible refine (refPut_at A bs len cap m L1 HL.out H1.out HM.out (by omega) _ (rd.below (below_next hb5w (Nat.le_refl _) hS0.1))).mono ?_
  rintro e w6 ⟨D1, c1, rfl, hb6, hr6⟩
  have hst6 := str_below c1 hr6 HA.out (Below.refl _ _)
  have hS1 := hkeep.out w6 (below_next hS0.1 (Nat.le_refl _) hb6)
  go_wp2_with fail
  refine hK1.out _ _ hS1 ?_
  refine wpAnyH_one (i := 5) (by kernel_rfl) rfl (by rfl) (fun K hK2 => ?_)
  go_simp
  refine hK2.out _ _ hS1 ?_
  refine wpAnyH_yes (i := 6) (d := 50) (v := ?_) rfl rfl (by kernel_rfl) (by kernel_rfl) (by kernel_rfl) (fun _ _ _ h => h) (by rfl) ?_ hS1 ?_
  rotate_left
  · intro w' hSw; go_simp <;> with_reducible rfl
  simp only [Act.put, List.setIfInBounds_toArray, List.set_cons_zero, List.set_cons_succ]
  refine wpAnyH_yes (i := 7) (d := 51) (v := ?_) rfl rfl (by kernel_rfl) (by kernel_rfl) (by kernel_rfl) (fun _ _ _ h => h) (by rfl) ?_ hS1 ?_
  rotate_left
  · intro w' hSw; go_simp <;> with_reducible rfl
  simp only [Act.put, List.setIfInBounds_toArray, List.set_cons_zero, List.set_cons_succ]
  refine wpAnyH_yes (i := 8) (d := 52) (v := ?_) rfl rfl (by kernel_rfl) (by kernel_rfl) (by kernel_rfl) (fun _ _ _ h => h) (by rfl) ?_ hS1 ?_
  rotate_left
  · intro w' hSw; go_simp <;> with_reducible rfl
  simp only [Act.put, List.setIfInBounds_toArray, List.set_cons_zero, List.set_cons_succ]
  refine wpAnyH_yes (i := 9) (d := 53) (v := ?_) rfl rfl (by kernel_rfl) (by kernel_rfl) (by kernel_rfl) (fun _ _ _ h => h) (by rfl) ?_ hS1 ?_
  rotate_left
  · intro w' hSw; go_simp <;> with_reducible rfl
  simp only [Act.put, List.setIfInBounds_toArray, List.set_cons_zero, List.set_cons_succ]
  refine wpAnyH_yes (i := 10) (d := 54) (v := ?_) rfl rfl (by kernel_rfl) (by kernel_rfl) (by kernel_rfl) (fun _ _ _ h => h) (by rfl) ?_ hS1 ?_
  rotate_left
  · intro w' hSw; go_simp <;> with_reducible rfl
  simp only [Act.put, List.setIfInBounds_toArray, List.set_cons_zero, List.set_cons_succ]
  refine wpAnyH_yes (i := 11) (d := 55) (v := ?_) rfl rfl (by kernel_rfl) (by kernel_rfl) (by kernel_rfl) (fun _ _ _ h => h) (by rfl) ?_ hS1 ?_
  rotate_left
  · intro w' hSw; go_simp <;> with_reducible rfl
  simp only [Act.put, List.setIfInBounds_toArray, List.set_cons_zero, List.set_cons_succ]
  refine wpAnyH_one (i := 12) (by kernel_rfl) rfl (by rfl) (fun K hK3 => ?_)
  go_simp
  with_reducible refine (refPutInt_at A bs len cap L2 i HL.out H2.out HI.out.1 HI.out.2 (by omega) _ (rd.below (below_next hb5w (Nat.le_refl _) hS1.1))).mono ?_
  rintro e w7 ⟨D2, c2, rfl, hb7, hr7⟩
  have hst7 := str_below c2 hr7 HB.out (Below.refl _ _)
  have hS2 := hkeep.out w7 (below_next hS1.1 (Nat.le_refl _) hb7)
  go_wp2_with fail
  refine hK3.out _ _ hS2 ?_
  refine wpAnyH_one (i := 13) (by kernel_rfl) rfl (by rfl) (fun K hK4 => ?_)
  go_simp
  refine hK4.out _ _ hS2 ?_
  refine wpAnyH_yes (i := 14) (d := 58) (v := ?_) rfl rfl (by kernel_rfl) (by kernel_rfl) (by kernel_rfl) (fun _ _ _ h => h) (by rfl) ?_ hS2 ?_
  rotate_left
  · intro w' hSw; go_simp <;> with_reducible rfl
  simp only [Act.put, List.setIfInBounds_toArray, List.set_cons_zero, List.set_cons_succ]
  refine wpAnyH_yes (i := 15) (d := 59) (v := ?_) rfl rfl (by kernel_rfl) (by kernel_rfl) (by kernel_rfl) (fun _ _ _ h => h) (by rfl) ?_ hS2 ?_
  rotate_left
  · intro w' hSw; go_simp <;> with_reducible rfl
  simp only [Act.put, List.setIfInBounds_toArray, List.set_cons_zero, List.set_cons_succ]
  refine wpAnyH_yes (i := 16) (d := 60) (v := ?_) rfl rfl (by kernel_rfl) (by kernel_rfl) (by kernel_rfl) (fun _ _ _ h => h) (by rfl) ?_ hS2 ?_
  rotate_left
  · intro w' hSw; go_simp <;> with_reducible rfl
  simp only [Act.put, List.setIfInBounds_toArray, List.set_cons_zero, List.set_cons_succ]
  refine wpAnyH_yes (i := 17) (d := 61) (v := ?_) rfl rfl (by kernel_rfl) (by kernel_rfl) (by kernel_rfl) (fun _ _ _ h => h) (by rfl) ?_ hS2 ?_
  rotate_left
  · intro w' hSw; go_simp <;> with_reducible rfl
  simp only [Act.put, List.setIfInBounds_toArray, List.set_cons_zero, List.set_cons_succ]
  refine wpAnyH_yes (i := 18) (d := 62) (v := ?_) rfl rfl (by kernel_rfl) (by kernel_rfl) (by kernel_rfl) (fun _ _ _ h => h) (by rfl) ?_ hS2 ?_
  rotate_left
  · intro w' hSw; go_simp <;> with_reducible rfl
  simp only [Act.put, List.setIfInBounds_toArray, List.set_cons_zero, List.set_cons_succ]
  refine wpAnyH_yes (i := 19) (d := 63) (v := ?_) rfl rfl (by kernel_rfl) (by kernel_rfl) (by kernel_rfl) (fun _ _ _ h => h) (by rfl) ?_ hS2 ?_
  rotate_left
  · intro w' hSw; go_simp <;> with_reducible rfl
  simp only [Act.put, List.setIfInBounds_toArray, List.set_cons_zero, List.set_cons_succ]
  refine wpAnyH_yes (i := 20) (d := 64) (v := ?_) rfl rfl (by kernel_rfl) (by kernel_rfl) (by kernel_rfl) (fun _ _ _ h => h) (by rfl) ?_ hS2 ?_
  rotate_left
  · intro w' hSw; go_simp <;> with_reducible rfl
  simp only [Act.put, List.setIfInBounds_toArray, List.set_cons_zero, List.set_cons_succ]
  refine wpAnyH_one (i := 21) (by kernel_rfl) rfl (by rfl) (fun K hK5 => ?_)
  go_simp
  with_reducible refine (refPutText_at A bs ss len cap k L3 HL.out HK.out H3.out (by omega) _ (rd.below (below_next hb5w (Nat.le_refl _) hS2.1))).mono ?_
  rintro e w8 ⟨D3, c3, rfl, hb8, hr8⟩
  have hst8 := str_below c3 hr8 HC.out (Below.refl _ _)
  have hS3 := hkeep.out w8 (below_next hS2.1 (Nat.le_refl _) hb8)
  go_wp2_with fail
  refine hK5.out _ _ hS3 ?_
  refine wpAnyH_one (i := 22) (by kernel_rfl) rfl (by rfl) (fun K hK6 => ?_)
  go_simp
  refine hK6.out _ _ hS3 ?_
  refine wpAnyH_yes (i := 23) (d := 67) (v := ?_) rfl rfl (by kernel_rfl) (by kernel_rfl) (by kernel_rfl) (fun _ _ _ h => h) (by rfl) ?_ hS3 ?_
  rotate_left
  · intro w' hSw; go_simp <;> with_reducible rfl
  simp only [Act.put, List.setIfInBounds_toArray, List.set_cons_zero, List.set_cons_succ]
  refine wpAnyH_yes (i := 24) (d := 68) (v := ?_) rfl rfl (by kernel_rfl) (by kernel_rfl) (by kernel_rfl) (fun _ _ _ h => h) (by rfl) ?_ hS3 ?_
  rotate_left
  · intro w' hSw; go_simp <;> with_reducible rfl
  simp only [Act.put, List.setIfInBounds_toArray, List.set_cons_zero, List.set_cons_succ]
  refine wpAnyH_yes (i := 25) (d := 14) (v := ?_) rfl rfl (by kernel_rfl) (by kernel_rfl) (by kernel_rfl) (fun _ _ _ h => h) (by rfl) ?_ hS3 ?_
  rotate_left
  · intro w' hSw; go_simp <;> with_reducible rfl
  simp only [Act.put, List.setIfInBounds_toArray, List.set_cons_zero, List.set_cons_succ]
  refine wpAnyH_done (by kernel_rfl) ?_ _
  have hb8w := below_next hb5w (Nat.le_refl _) hS3.1
  replace hrs := hrs.below hS3.1
  replace hBx := hBx.below hS3.1 hBx.lt
  replace hBy := hBy.below hS3.1 hBy.lt
  replace hBz := hBz.below hS3.1 hBz.lt
  clear hS0 hS1 hS2 hS3 hst6 hst7 hst8 hr6 hr7 hr8 hb6 hb7 hb8 hb5w hkeep
  have HX1 : Hid (((bs ++ Wire.put m).map Bv).toArray.size = L1) := by
    show _ = _
    rw [List.size_toArray, List.length_map]; exact HA.out
  generalize ((bs ++ Wire.put m).map Bv).toArray = xs at *
  go_wp2_with fail
  go_loopw [15] (fun x wr => ∃ q : Nat, q ≤ L1 ∧ x = .int .i64 (q : Int) ∧ Touch gx w8 wr ∧ ∃ cs : Array Value, Blk wr gx 5 cs ∧ Hid (cs.size = L1)) (fun x _ => L1 - (intOf x).toNat)
  case atStart => exact ⟨0, by omega, rfl, Touch.refl _ _, xs, hBx, HX1⟩
  case round =>
    obtain ⟨q, hq, rfl, hT, cs, hBc, HCS⟩ := hrel
    by_cases hlt : q < L1
    · have hin : q < cs.size := by rw [HCS.out]; exact hlt
      obtain ⟨u, hc⟩ : ∃ u, wr.cell? ⟨gx, q, none⟩ = some u := ⟨_, (hBc.cell q).trans (Array.getElem?_eq_getElem hin)⟩
      have hf := hBc.frozen q
      clear hin
      go_wp2_with fail
      go_roundw
      case rel =>
        refine ⟨q + 1, by omega, by go_num, hT.set_ _ _, _, hBc.put q _, ?_⟩
        show _ = _
        rw [Array.size_setIfInBounds]; exact HCS.out
      case measure => simp [intOf]; omega
    · obtain rfl : q = L1 := by omega
      have hbr := hT.below hb8w hb8w.size hgxw
      replace hrs := hT.rd hrs (fun off => .inl (fun h => hx0 (by cases h; rfl)))
      replace hBy := hT.blk hBy hxy.symm
      replace hBz := hT.blk hBz hxz.symm
      have hra := rd.below hbr
      clear hT hBc hb8w hBx hlt hq hgxw
      have hkeep : Hid (∀ w', Below wr.heap.size wr w' → Below wr.heap.size wr w' ∧ Sem.run Try.prog (convert 22 9 (.slice (some ⟨g0, 0, none⟩) len (len + 40))) w' = .ok (.string ⟨(bs).toArray⟩) w' ∧ Sem.run Try.prog (convert 22 9 (.slice A len cap)) w' = .ok (.string ⟨bs.toArray⟩) w' ∧ Sem.run Try.prog (convert 22 9 (.slice (some ⟨gy, 0, none⟩) L2 L2)) w' = .ok (.string ⟨(bs ++ Wire.put (Wire.zig i)).toArray⟩) w' ∧ Sem.run Try.prog (convert 22 9 (.slice (some ⟨gz, 0, none⟩) L3 L3)) w' = .ok (.string ⟨(bs ++ Wire.text ss).toArray⟩) w') := fun w' h => ⟨h, str_below (len + 40) hrs HL.out h, str_below cap hra HL.out h, str_below L2 hBy.rd HB.out h, str_below L3 hBz.rd HC.out h⟩
      have hS0 := hkeep.out wr.drew (Below.refl _ _).drew
      go_wp2_with fail
      refine wp_region_held_drew (S := fun w' => Below wr.heap.size wr w' ∧ Sem.run Try.prog (convert 22 9 (.slice (some ⟨g0, 0, none⟩) len (len + 40))) w' = .ok (.string ⟨(bs).toArray⟩) w' ∧ Sem.run Try.prog (convert 22 9 (.slice A len cap)) w' = .ok (.string ⟨bs.toArray⟩) w' ∧ Sem.run Try.prog (convert 22 9 (.slice (some ⟨gy, 0, none⟩) L2 L2)) w' = .ok (.string ⟨(bs ++ Wire.put (Wire.zig i)).toArray⟩) w' ∧ Sem.run Try.prog (convert 22 9 (.slice (some ⟨gz, 0, none⟩) L3 L3)) w' = .ok (.string ⟨(bs ++ Wire.text ss).toArray⟩) w') (by kernel_rfl) hS0 (fun _ => ?_)
      refine wpAnyH_yes (i := 0) (d := 78) (v := ?_) rfl rfl (by kernel_rfl) (by kernel_rfl) (by kernel_rfl) (fun _ _ _ h => h) (by rfl) ?_ hS0 ?_
      rotate_left
      · intro w' hSw; go_simp <;> with_reducible rfl
      simp only [Act.put, List.setIfInBounds_toArray, List.set_cons_zero, List.set_cons_succ]
      refine wpAnyH_yes (i := 1) (d := 79) (v := ?_) rfl rfl (by kernel_rfl) (by kernel_rfl) (by kernel_rfl) (fun _ _ _ h => h) (by rfl) ?_ hS0 ?_
      rotate_left
      · intro w' hSw; go_simp <;> with_reducible rfl
      simp only [Act.put, List.setIfInBounds_toArray, List.set_cons_zero, List.set_cons_succ]
      refine wpAnyH_yes (i := 2) (d := 80) (v := ?_) rfl rfl (by kernel_rfl) (by kernel_rfl) (by kernel_rfl) (fun _ _ _ h => h) (by rfl) ?_ hS0 ?_
      rotate_left
      · intro w' hSw; go_simp <;> with_reducible rfl
      simp only [Act.put, List.setIfInBounds_toArray, List.set_cons_zero, List.set_cons_succ]
      refine wpAnyH_yes (i := 3) (d := 81) (v := ?_) rfl rfl (by kernel_rfl) (by kernel_rfl) (by kernel_rfl) (fun _ _ _ h => h) (by rfl) ?_ hS0 ?_
      rotate_left
      · intro w' hSw; go_simp <;> with_reducible rfl
      simp only [Act.put, List.setIfInBounds_toArray, List.set_cons_zero, List.set_cons_succ]
      refine wpAnyH_yes (i := 4) (d := 82) (v := ?_) rfl rfl (by kernel_rfl) (by kernel_rfl) (by kernel_rfl) (fun _ _ _ h => h) (by rfl) ?_ hS0 ?_
      rotate_left
      · intro w' hSw; go_simp <;> with_reducible rfl
      simp only [Act.put, List.setIfInBounds_toArray, List.set_cons_zero, List.set_cons_succ]
      refine wpAnyH_yes (i := 5) (d := 83) (v := ?_) rfl rfl (by kernel_rfl) (by kernel_rfl) (by kernel_rfl) (fun _ _ _ h => h) (by rfl) ?_ hS0 ?_
      rotate_left
      · intro w' hSw; go_simp <;> with_reducible rfl
      simp only [Act.put, List.setIfInBounds_toArray, List.set_cons_zero, List.set_cons_succ]
      refine wpAnyH_yes (i := 6) (d := 84) (v := ?_) rfl rfl (by kernel_rfl) (by kernel_rfl) (by kernel_rfl) (fun _ _ _ h => h) (by rfl) ?_ hS0 ?_
      rotate_left
      · intro w' hSw; go_simp <;> with_reducible rfl
      simp only [Act.put, List.setIfInBounds_toArray, List.set_cons_zero, List.set_cons_succ]
      refine wpAnyH_yes (i := 7) (d := 85) (v := ?_) rfl rfl (by kernel_rfl) (by kernel_rfl) (by kernel_rfl) (fun _ _ _ h => h) (by rfl) ?_ hS0 ?_
      rotate_left
      · intro w' hSw; go_simp <;> with_reducible rfl
      simp only [Act.put, List.setIfInBounds_toArray, List.set_cons_zero, List.set_cons_succ]
      refine wpAnyH_yes (i := 8) (d := 86) (v := ?_) rfl rfl (by kernel_rfl) (by kernel_rfl) (by kernel_rfl) (fun _ _ _ h => h) (by rfl) ?_ hS0 ?_
      rotate_left
      · intro w' hSw; go_simp <;> with_reducible rfl
      simp only [Act.put, List.setIfInBounds_toArray, List.set_cons_zero, List.set_cons_succ]
      refine wpAnyH_yes (i := 9) (d := 87) (v := ?_) rfl rfl (by kernel_rfl) (by kernel_rfl) (by kernel_rfl) (fun _ _ _ h => h) (by rfl) ?_ hS0 ?_
      rotate_left
      · intro w' hSw; go_simp <;> with_reducible rfl
      simp only [Act.put, List.setIfInBounds_toArray, List.set_cons_zero, List.set_cons_succ]
      refine wpAnyH_yes (i := 10) (d := 88) (v := ?_) rfl rfl (by kernel_rfl) (by kernel_rfl) (by kernel_rfl) (fun _ _ _ h => h) (by rfl) ?_ hS0 ?_
      rotate_left
      · intro w' hSw; go_simp <;> with_reducible rfl
      simp only [Act.put, List.setIfInBounds_toArray, List.set_cons_zero, List.set_cons_succ]
      refine wpAnyH_yes (i := 11) (d := 89) (v := ?_) rfl rfl (by kernel_rfl) (by kernel_rfl) (by kernel_rfl) (fun _ _ _ h => h) (by rfl) ?_ hS0 ?_
      rotate_left
      · intro w' hSw; go_simp <;> with_reducible rfl
      simp only [Act.put, List.setIfInBounds_toArray, List.set_cons_zero, List.set_cons_succ]
      refine wpAnyH_yes (i := 12) (d := 90) (v := ?_) rfl rfl (by kernel_rfl) (by kernel_rfl) (by kernel_rfl) (fun _ _ _ h => h) (by rfl) ?_ hS0 ?_
      rotate_left
      · intro w' hSw; go_simp <;> with_reducible rfl
      simp only [Act.put, List.setIfInBounds_toArray, List.set_cons_zero, List.set_cons_succ]
      refine wpAnyH_yes (i := 13) (d := 91) (v := ?_) rfl rfl (by kernel_rfl) (by kernel_rfl) (by kernel_rfl) (fun _ _ _ h => h) (by rfl) ?_ hS0 ?_
      rotate_left
      · intro w' hSw; go_simp <;> with_reducible rfl
      simp only [Act.put, List.setIfInBounds_toArray, List.set_cons_zero, List.set_cons_succ]
      refine wpAnyH_yes (i := 14) (d := 92) (v := ?_) rfl rfl (by kernel_rfl) (by kernel_rfl) (by kernel_rfl) (fun _ _ _ h => h) (by rfl) ?_ hS0 ?_
      rotate_left
      · intro w' hSw; go_simp <;> with_reducible rfl
      simp only [Act.put, List.setIfInBounds_toArray, List.set_cons_zero, List.set_cons_succ]
      refine wpAnyH_yes (i := 15) (d := 93) (v := ?_) rfl rfl (by kernel_rfl) (by kernel_rfl) (by kernel_rfl) (fun _ _ _ h => h) (by rfl) ?_ hS0 ?_
      rotate_left
      · intro w' hSw; go_simp <;> with_reducible rfl
      simp only [Act.put, List.setIfInBounds_toArray, List.set_cons_zero, List.set_cons_succ]
      refine wpAnyH_one (i := 16) (by kernel_rfl) rfl (by rfl) (fun K hK7 => ?_)
      go_simp
      with_reducible refine (refPutInt_at A bs len cap L2 i HL.out H2.out HI.out.1 HI.out.2 (by omega) _ (rd.below (below_next hbr (Nat.le_refl _) hS0.1))).mono ?_
      rintro e w9 ⟨D4, c4, rfl, hb9, hr9⟩
      have hst9 := str_below c4 hr9 HB.out (Below.refl _ _)
      have hS1 := hkeep.out w9 (below_next hS0.1 (Nat.le_refl _) hb9)
      go_wp2_with fail
      refine hK7.out _ _ hS1 ?_
      refine wpAnyH_one (i := 17) (by kernel_rfl) rfl (by rfl) (fun K hK8 => ?_)
      go_simp
      refine hK8.out _ _ hS1 ?_
      refine wpAnyH_yes (i := 18) (d := 96) (v := ?_) rfl rfl (by kernel_rfl) (by kernel_rfl) (by kernel_rfl) (fun _ _ _ h => h) (by rfl) ?_ hS1 ?_
      rotate_left
      · intro w' hSw; go_simp <;> with_reducible rfl
      simp only [Act.put, List.setIfInBounds_toArray, List.set_cons_zero, List.set_cons_succ]
      refine wpAnyH_yes (i := 19) (d := 97) (v := ?_) rfl rfl (by kernel_rfl) (by kernel_rfl) (by kernel_rfl) (fun _ _ _ h => h) (by rfl) ?_ hS1 ?_
      rotate_left
      · intro w' hSw; go_simp <;> with_reducible rfl
      simp only [Act.put, List.setIfInBounds_toArray, List.set_cons_zero, List.set_cons_succ]
      refine wpAnyH_yes (i := 20) (d := 98) (v := ?_) rfl rfl (by kernel_rfl) (by kernel_rfl) (by kernel_rfl) (fun _ _ _ h => h) (by rfl) ?_ hS1 ?_
      rotate_left
      · intro w' hSw; go_simp <;> with_reducible rfl
      simp only [Act.put, List.setIfInBounds_toArray, List.set_cons_zero, List.set_cons_succ]
      refine wpAnyH_yes (i := 21) (d := 99) (v := ?_) rfl rfl (by kernel_rfl) (by kernel_rfl) (by kernel_rfl) (fun _ _ _ h => h) (by rfl) ?_ hS1 ?_
      rotate_left
      · intro w' hSw; go_simp <;> with_reducible rfl
      simp only [Act.put, List.setIfInBounds_toArray, List.set_cons_zero, List.set_cons_succ]
      refine wpAnyH_yes (i := 22) (d := 100) (v := ?_) rfl rfl (by kernel_rfl) (by kernel_rfl) (by kernel_rfl) (fun _ _ _ h => h) (by rfl) ?_ hS1 ?_
      rotate_left
      · intro w' hSw; go_simp <;> with_reducible rfl
      simp only [Act.put, List.setIfInBounds_toArray, List.set_cons_zero, List.set_cons_succ]
      refine wpAnyH_yes (i := 23) (d := 101) (v := ?_) rfl rfl (by kernel_rfl) (by kernel_rfl) (by kernel_rfl) (fun _ _ _ h => h) (by rfl) ?_ hS1 ?_
      rotate_left
      · intro w' hSw; go_simp <;> with_reducible rfl
      simp only [Act.put, List.setIfInBounds_toArray, List.set_cons_zero, List.set_cons_succ]
      refine wpAnyH_yes (i := 24) (d := 102) (v := ?_) rfl rfl (by kernel_rfl) (by kernel_rfl) (by kernel_rfl) (fun _ _ _ h => h) (by rfl) ?_ hS1 ?_
      rotate_left
      · intro w' hSw; go_simp <;> with_reducible rfl
      simp only [Act.put, List.setIfInBounds_toArray, List.set_cons_zero, List.set_cons_succ]
      refine wpAnyH_one (i := 25) (by kernel_rfl) rfl (by rfl) (fun K hK9 => ?_)
      go_simp
      with_reducible refine (refPutText_at A bs ss len cap k L3 HL.out HK.out H3.out (by omega) _ (rd.below (below_next hbr (Nat.le_refl _) hS1.1))).mono ?_
      rintro e w10 ⟨D5, c5, rfl, hb10, hr10⟩
      have hst10 := str_below c5 hr10 HC.out (Below.refl _ _)
      have hS2 := hkeep.out w10 (below_next hS1.1 (Nat.le_refl _) hb10)
      go_wp2_with fail
      refine hK9.out _ _ hS2 ?_
      refine wpAnyH_one (i := 26) (by kernel_rfl) rfl (by rfl) (fun K hK10 => ?_)
      go_simp
      refine hK10.out _ _ hS2 ?_
      refine wpAnyH_yes (i := 27) (d := 105) (v := ?_) rfl rfl (by kernel_rfl) (by kernel_rfl) (by kernel_rfl) (fun _ _ _ h => h) (by rfl) ?_ hS2 ?_
      rotate_left
      · intro w' hSw; go_simp <;> with_reducible rfl
      simp only [Act.put, List.setIfInBounds_toArray, List.set_cons_zero, List.set_cons_succ]
      refine wpAnyH_yes (i := 28) (d := 106) (v := ?_) rfl rfl (by kernel_rfl) (by kernel_rfl) (by kernel_rfl) (fun _ _ _ h => h) (by rfl) ?_ hS2 ?_
      rotate_left
      · intro w' hSw; go_simp <;> with_reducible rfl
      simp only [Act.put, List.setIfInBounds_toArray, List.set_cons_zero, List.set_cons_succ]
      refine wpAnyH_yes (i := 29) (d := 8) (v := ?_) rfl rfl (by kernel_rfl) (by kernel_rfl) (by kernel_rfl) (fun _ _ _ h => h) (by rfl) ?_ hS2 ?_
      rotate_left
      · intro w' hSw; go_simp <;> with_reducible rfl
      simp only [Act.put, List.setIfInBounds_toArray, List.set_cons_zero, List.set_cons_succ]
      refine wpAnyH_done (by kernel_rfl) ?_ _
      go_wp2_with fail
      go_ret
      exact ⟨rfl, below_next hbr (Nat.le_refl _) hS2.1⟩
theorem walk_WireLays (w : World) (a0 : Option Addr) (bs : List UInt8) (len cap : Nat) (hl : bs.length = len) (_hc : len ≤ cap) (_hm : cap ≤ 140737488351232) (rd : Rd w a0 bs) (a1 : Int) (w1 : (Lit.int .u64 a1).wf = true) (a2 : Int) (w2 : (Lit.int .i64 a2).wf = true)
    (ss : List UInt8) (w3 : (⟨⟨ss⟩⟩ : ByteArray).size ≤ maxLen) :
    Calls Try.prog 3 #[.slice a0 len cap, .int .u64 a1, .int .i64 a2, .string ⟨⟨ss⟩⟩] w fun e w' => e = .returned (.bool true) ∧ Below w.heap.size w w' := by
  have hb1 := bounds_u64 w1
  have hb2 := bounds_i64 w2
  obtain ⟨m, rfl⟩ := Int.eq_ofNat_of_zero_le hb1.1
  have hk : ss.length ≤ 9223372036854775807 := by
    have h : ss.length ≤ maxLen := w3
    unfold maxLen at h; omega
  by_cases h : 300 < len ∨ 300 < ss.length
  · exact lays_out w a0 ss len cap ss.length _ a2 rfl hk h
  · exact lays_in w a0 bs ss len cap ss.length m a2 hl rfl (by omega) (by omega) rd (by omega) hb2.1 hb2.2

/-! ### The row's step. -/
namespace wireLays
theorem own : ownKnob Try.prog.godebug = none := by kernel_rfl
theorem laidOut : laidOutB Try.prog = true := by kernel_rfl
set_option linter.unusedVariables false in
set_option maxRecDepth 100000 in
theorem lifted (os : Os) (started : os.Started) (H : Type) (enc : TypeId × Value → H) :
    ReturnsInHanded {} Try.checked os 3 .any (Rows.wireLaysSpec.pre6 enc Try.prog Try.f3 Rows.wireLaysRow.domain false) (Rows.wireLaysSpec.post enc Try.prog Try.f3 false true false false) := by
  refine returnsInHanded_of_change_sized (C := Try.checked) own started (by kernel_rfl) Try.func3
    (ChangeSpec.witness6 (enc := enc) (C := Try.checked) false ⟨#[], #[.slice none 0 0, .int .u64 0, .int .i64 0, .string ⟨#[]⟩], []⟩ 8 (by kernel_rfl) (by kernel_rfl) (by kernel_rfl) (by kernel_rfl)) ?_
  intro W base args ds gs before hval0 hW hcnd hsz0 _
  have hval : ∀ (j : Nat) t v, Try.f3.params[j]? = some t → args[j]? = some v → Value.okWide Try.prog W .any base t v := hval0
  have hsz : (DataW.weightsEach Try.prog (Try.f3.params.toList ++ Rows.wireLaysSpec.plain.varTypes Try.prog) (ds ++ gs)).all (· ≤ reachBytes) = true := hsz0
  have hW' := hW
  obtain ⟨p, q, hA0, hV, rfl, hfz, hnd⟩ := hW
  have hA : DataW.TrodAll enc Try.prog W 0 (fun _ => true) true Try.f3.params.toList args.toList ds p := hA0
  rw [Try.params3] at hA hval hsz
  obtain ⟨v0, vs0, d0, ds0, p0, q0, hargs, rfl, rfl, h0, r0⟩ := trodAll_cons hA
  obtain ⟨v1, vs1, d1, ds1, p1, q1, rfl, rfl, rfl, h1, r1⟩ := trodAll_cons r0
  obtain ⟨v2, vs2, d2, ds2, p2, q2, rfl, rfl, rfl, h2, r2⟩ := trodAll_cons r1
  obtain ⟨v3, vs3, d3, ds3, p3, q3, rfl, rfl, rfl, h3, r3⟩ := trodAll_cons r2
  obtain ⟨rfl, rfl, rfl⟩ := trodAll_nil r3
  obtain rfl : args = #[v0, v1, v2, v3] := by cases args; simp_all
  obtain ⟨rfl, rfl⟩ := trodVars_none hV
  obtain ⟨a0, len0, cap0, rfl⟩ := okWide_slice Try.underlying22 (hval 0 22 v0 rfl rfl)
  have k0 := h0
  have lt0 : ∀ x ∈ p0, x.block < W.heap.size := by obtain ⟨m, hm⟩ := k0; exact DataW.trod_lt m _ _ _ hm
  obtain ⟨bs0, hl0, hc0, hm0, rd0⟩ : ∃ bs : List UInt8, bs.length = len0 ∧ len0 ≤ cap0 ∧ cap0 ≤ 140737488351232 ∧ Rd W a0 bs := by
    obtain ⟨fuel, hf⟩ := h0
    rcases open_ints Try.underlying22 Try.underlying5 (by kernel_rfl) hf with ⟨hcs, _⟩ | ⟨x, l, c, zs, hcs, _, hl, hm, hz, hx, hcell, hwz⟩
    · simp [Value.cells] at hcs
      obtain ⟨rfl, rfl, rfl⟩ := hcs
      exact ⟨[], rfl, by omega, by omega, .inl rfl⟩
    · simp [Value.cells] at hcs
      obtain ⟨rfl, rfl, rfl⟩ := hcs
      have hz' : zs.length = cap0 := by simpa using hz
      have hd : d0 = .slice (lits .u8 (zs.take len0)) (lits .u8 (zs.drop len0)) := congrArg Prod.fst hx
      have hb := sized_slice hsz (j := 0) (t := 22) (elems := lits .u8 (zs.take len0)) (spare := lits .u8 (zs.drop len0)) rfl (by rw [hd]; rfl) Try.underlying22
      have hb' : cap0 ≤ 140737488351232 := by
        rw [show Try.prog.bytesOf 5 = 1 from by kernel_rfl] at hb
        simp [lits, reachBytes] at hb; omega
      obtain ⟨bs, e1, e2⟩ := rd_of_ints hl hz' hcell hwz
      exact ⟨bs, e1, hl, hb', e2⟩
  obtain ⟨a1, rfl, rfl, rfl, w1⟩ := open_int Try.underlying23 (hval 1 23 v1 rfl rfl) h1
  obtain ⟨a2, rfl, rfl, rfl, w2⟩ := open_int Try.underlying3 (hval 2 3 v2 rfl rfl) h2
  obtain ⟨⟨⟨a3⟩⟩, rfl, rfl, rfl, w3⟩ := Go.ChangeMaps.open_string Try.underlying9 (hval 3 9 v3 rfl rfl) h3
  clear hA0 hval0
  refine (walk_WireLays W a0 bs0 len0 cap0 hl0 hc0 hm0 rd0 a1 w1 a2 w2 a3 w3).mono fun e W' ⟨he, bel⟩ => ?_
  subst he
  exact ⟨_, rfl, _, _, _, [], _, [], hW', trodAll_mk1 (shut_bool Try.underlying4 _), (trodAll_cons_mk (Below.trod laidOut (by kernel_rfl) (of_decide_eq_true (by kernel_rfl)) k0 bel lt0) (trodAll_cons_mk (shut_int Try.underlying23 w1) (trodAll_cons_mk (shut_int Try.underlying3 w2) (trodAll_cons_mk (Go.ChangeMaps.shut_string Try.underlying9 w3) trodAll_mk0)))), rfl, bel.frame _, fun h => by cases h⟩
theorem over : Rows.wireLaysRow.holds Try.pinned (OpenSpec.ofChange Rows.wireLaysSpec) :=
  OpenClaim.holds_of_wide 3 Try.f3 rfl rfl rfl rfl rfl rfl rfl ⟨rfl, rfl, rfl, rfl, rfl⟩ rfl rfl rfl rfl rfl (by kernel_rfl) Try.func3 (by kernel_rfl)
    (of_decide_eq_true (by kernel_rfl)) (by unfold Func.isWrapper; first | (rw [if_pos (by decide +kernel)]; kernel_rfl) | (rw [if_neg (by decide +kernel)]; exact ⟨rfl, rfl⟩))
    (fun os started H enc _ => lifted os started H enc)
end wireLays
/-- THE STATEMENT. -/
theorem wireLays_holds : Rows.WireLaysSaid := wireLays.over
#print axioms wireLays_holds
end Go.Proofs.Ytgadpdjhnlblaaa
