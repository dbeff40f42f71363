/- The document's own answer for layer 2: Int, Upto, Text of a scan. -/
import Derived.Test.YtcmjekchfgnbdaaWRefS
namespace Go.Proofs.Ytcmjekchfgnbdaa
open Go.RowKit
theorem numV_err {s : Wire.St} (h : s.fine) (he : s.numS.err ≠ 0) : s.numV = 0 := by
  by_cases h0 : (Wire.num s.rest).2.2 = 0
  · have e : s.numS.err = s.err := by unfold Wire.St.numS; rw [if_pos h0]
    rw [e] at he
    have hr := h he
    rw [hr] at h0
    cases h0
  · exact (Wire.num_bad _ h0).1
theorem fail_err {s : Wire.St} (he : s.err ≠ 0) (z : Int) : s.fail z = s := by unfold Wire.St.fail; rw [if_neg (fun h => he h.1)]
theorem uptoV_err {s : Wire.St} (h : s.fine) (m : Int) (he : (s.uptoS m).err ≠ 0) : s.uptoV m = 0 := by
  unfold Wire.St.uptoV
  unfold Wire.St.uptoS at he
  split
  · rfl
  · rename_i ho
    rw [if_neg ho] at he
    exact numV_err h he
set_option maxRecDepth 100000 in
theorem refInt_at (w : World) (g : Nat) (s : Wire.St) (h : Sc w g 40 s) (hfi : s.fine) :
    Calls Try.prog 61 #[.pointer (some ⟨g, 0, none⟩)] w (Reads w g 40 (.int .i64 (Wire.zag s.numV)) s.numS) := by
  have hn := refNum_at w g s h hfi
  have hv := Wire.num_lt s.rest
  have e : (Wire.num s.rest).1 = s.numV := rfl
  rw [e] at hv
  clear e
  generalize s.numV = v at *
  generalize s.numS = s1 at *
  have hv2 : (v : Int) ≤ 18446744073709551615 := by omega
  clear hv
  unfold Wire.zag
  by_cases h1 : v % 2 = 1
  · rw [if_pos h1]
    have hd : ((v : Int) % 2 == 1) = true := by simp; omega
    clear h1
    go_enter Try.func61, Try.ntmps61
    go_wp2_with fail
    refine hn.mono ?_
    rintro e w1 ⟨rfl, hs1, ht1⟩
    go_wp2_with fail
    go_ret
    exact ⟨ret_int (by omega), hs1, ht1⟩
  · rw [if_neg h1]
    have hd : ((v : Int) % 2 == 1) = false := by simp; omega
    clear h1
    go_enter Try.func61, Try.ntmps61
    go_wp2_with fail
    refine hn.mono ?_
    rintro e w1 ⟨rfl, hs1, ht1⟩
    go_wp2_with fail
    go_ret
    exact ⟨ret_int (by omega), hs1, ht1⟩
set_option maxRecDepth 100000 in
set_option maxHeartbeats 800000 in
theorem refUpto_at (w : World) (g : Nat) (s : Wire.St) (h : Sc w g 40 s) (hfi : s.fine) (m : Int) (hm1 : -9223372036854775808 ≤ m) (hm2 : m ≤ 9223372036854775807) :
    Calls Try.prog 44 #[.pointer (some ⟨g, 0, none⟩), .int .i64 m] w (Reads w g 40 (.int .i64 (s.uptoV m : Int)) (s.uptoS m)) := by
  have hn := refNum_at w g s h hfi
  have hf1 := Wire.St.numS_fine hfi
  have hve := numV_err (s := s) hfi
  unfold Wire.St.uptoV Wire.St.uptoS Wire.St.over
  generalize s.numS = s1 at *
  generalize s.numV = v at *
  have HF := Lib.hid hf1
  clear hf1
  by_cases he : s1.err = 0
  · clear hve
    have HE := Lib.hid he
    clear he
    by_cases h0 : m < 0
    · have hd : decide (m < 0) = true := by simpa using h0
      rw [hd, Bool.true_or, if_pos rfl, if_pos rfl]
      go_enter Try.func44, Try.ntmps44
      go_wp2_with fail
      refine hn.mono ?_
      rintro e w1 ⟨rfl, hs1, ht1⟩
      have hs0 := hs1
      obtain ⟨A, n, cap, hB, l1, l2, l3, hr⟩ := hs1
      rw [HE.out] at hB
      obtain ⟨c0, c1, f0, f1⟩ := blk2 hB
      clear l1
      go_wp2_with fail
      refine (refFail_at w1 g s1 hs0 HF.out _).mono ?_
      rintro e w2 ⟨rfl, hs2, ht2⟩
      go_wp2_with fail
      go_ret
      exact ⟨rfl, hs2, ht1.trans ht2⟩
    · obtain ⟨k, rfl⟩ := Int.eq_ofNat_of_zero_le (show 0 ≤ m by omega)
      have hd : decide ((k : Int) < 0) = false := by simp
      rw [hd, Bool.false_or]
      have hk : k ≤ 9223372036854775807 := by omega
      clear hm1 hm2 h0
      by_cases hv : k < v
      · have hd2 : decide ((k : Int) < (v : Int)) = true := by simpa using hv
        have hd3 : decide (k < v) = true := by simpa using hv
        rw [hd2, if_pos rfl, if_pos rfl]
        go_enter Try.func44, Try.ntmps44
        go_wp2_with fail
        refine hn.mono ?_
        rintro e w1 ⟨rfl, hs1, ht1⟩
        have hs0 := hs1
        obtain ⟨A, n, cap, hB, l1, l2, l3, hr⟩ := hs1
        rw [HE.out] at hB
        obtain ⟨c0, c1, f0, f1⟩ := blk2 hB
        clear l1
        go_wp2_with fail
        refine (refFail_at w1 g s1 hs0 HF.out _).mono ?_
        rintro e w2 ⟨rfl, hs2, ht2⟩
        go_wp2_with fail
        go_ret
        exact ⟨rfl, hs2, ht1.trans ht2⟩
      · have hd2 : decide ((k : Int) < (v : Int)) = false := by simpa using hv
        have hd3 : decide (k < v) = false := by simpa using hv
        have hv2 : v ≤ k := by omega
        rw [hd2, if_neg (by simp), if_neg (by simp)]
        go_enter Try.func44, Try.ntmps44
        go_wp2_with fail
        refine hn.mono ?_
        rintro e w1 ⟨rfl, hs1, ht1⟩
        have hs0 := hs1
        obtain ⟨A, n, cap, hB, l1, l2, l3, hr⟩ := hs1
        rw [HE.out] at hB
        obtain ⟨c0, c1, f0, f1⟩ := blk2 hB
        clear l1
        go_wp2_with fail
        go_ret
        exact ⟨rfl, hs0, ht1⟩
  · obtain rfl := hve he
    clear hve
    have e1 : ∀ b : Bool, (if b = true then s1.fail 4 else s1) = s1 := fun b => by cases b <;> simp [fail_err he]
    have e2 : ∀ b : Bool, (if b = true then 0 else 0) = (0 : Nat) := fun b => by cases b <;> rfl
    rw [e1, e2]
    have hd : (s1.err == 0) = false := by simpa using he
    clear e1 e2 he
    go_enter Try.func44, Try.ntmps44
    go_wp2_with fail
    refine hn.mono ?_
    rintro e w1 ⟨rfl, hs1, ht1⟩
    have hs0 := hs1
    obtain ⟨A, n, cap, hB, l1, l2, l3, hr⟩ := hs1
    obtain ⟨c0, c1, f0, f1⟩ := blk2 hB
    clear l1
    go_wp2_with fail
    go_ret
    exact ⟨rfl, hs0, ht1⟩
set_option maxRecDepth 100000 in
set_option maxHeartbeats 800000 in
theorem refText_at (w : World) (g : Nat) (s : Wire.St) (h : Sc w g 40 s) (hfi : s.fine) (m : Int) (hm1 : -9223372036854775808 ≤ m) (hm2 : m ≤ 9223372036854775807) :
    Calls Try.prog 42 #[.pointer (some ⟨g, 0, none⟩), .int .i64 m] w (Reads w g 40 (.string ⟨(s.textV m).toArray⟩) (s.textS m)) := by
  have hu := refUpto_at w g s h hfi m hm1 hm2
  have hf1 := Wire.St.uptoS_fine hfi m
  have hve := uptoV_err (s := s) hfi m
  unfold Wire.St.textV Wire.St.textS
  have hk : s.uptoV m ≤ 9223372036854775807 := by
    unfold Wire.St.uptoV Wire.St.over
    split
    · omega
    · rename_i h
      simp at h
      omega
  generalize s.uptoS m = s1 at *
  generalize s.uptoV m = k at *
  have HF := Lib.hid hf1
  clear hf1
  by_cases he : s1.err = 0
  · clear hve
    have HE := Lib.hid he
    clear he
    by_cases hlt : s1.rest.length < k
    · rw [if_pos hlt, if_pos hlt]
      go_enter Try.func42, Try.ntmps42
      go_wp2_with fail
      refine hu.mono ?_
      rintro e w1 ⟨rfl, hs1, ht1⟩
      have hs0 := hs1
      obtain ⟨A, n, cap, hB, h1, h2, h3, hr⟩ := hs1
      rw [HE.out] at hB
      obtain ⟨c0, c1, f0, f1⟩ := blk2 hB
      rw [h1] at hlt
      clear h1
      have hd : decide (n < k) = true := by simpa using hlt
      go_wp2_with fail
      refine (refFail_at w1 g s1 hs0 HF.out _).mono ?_
      rintro e w2 ⟨rfl, hs2, ht2⟩
      have hs02 := hs2
      obtain ⟨A', n', cap', hB', h1', h2', h3', hr'⟩ := hs2
      have hfe : (s1.fail 2).err = 2 := by unfold Wire.St.fail; rw [if_pos ⟨HE.out, by decide⟩]
      rw [hfe] at hB'
      obtain ⟨c0', c1', f0', f1'⟩ := blk2 hB'
      clear h1' hfe c0 c1 f0 f1 hB
      go_wp2_with fail
      go_ret
      exact ⟨rfl, hs02, ht1.trans ht2⟩
    · rw [if_neg hlt, if_neg hlt]
      go_enter Try.func42, Try.ntmps42
      go_wp2_with fail
      refine hu.mono ?_
      rintro e w1 ⟨rfl, hs1, ht1⟩
      obtain ⟨A, n, cap, hB, h1, h2, h3, hr⟩ := hs1
      rw [HE.out] at hB
      obtain ⟨c0, c1, f0, f1⟩ := blk2 hB
      rw [h1] at hlt
      have HL := Lib.hid h1
      clear h1
      have hd : decide (n < k) = false := by simpa using hlt
      have hkn : k ≤ n := by omega
      obtain ⟨A', hcut, hr'⟩ := run_cut hr HL.out hkn h2
      have hhd := run_head A n cap k hkn h2
      have hst := run_str (P := Try.prog) w1 A (s1.rest.take k) k cap (hr.take k) (by rw [List.length_take, HL.out]; omega) 27 5 9 Try.underlying27 Try.underlying5 Try.underlying9
      have HK := Lib.hid hkn
      clear hkn hlt
      go_wp2_with fail
      go_ret
      refine ⟨rfl, ?_, ht1.set_ _ _⟩
      have hT : Touch g w1 (w1.setCell ⟨g, 0, none⟩ (.slice A' (n - k) (cap - k))) := (Touch.refl _ _).set_ _ _
      refine ⟨A', n - k, cap - k, ?_, by simp [HL.out], by have := HK.out; omega, by omega, hT.rd hr' (rd_apart hB hr')⟩
      simp only [HE.out]
      exact hB.put 0 _
  · obtain rfl := hve he
    clear hve
    have hrest := HF.out he
    have hd : (s1.err == 0) = false := by simpa using he
    have hd2 : (s1.err != 0) = true := by simpa using he
    obtain ⟨rest, err⟩ := s1
    simp only at hrest hd hd2
    subst hrest
    rw [if_neg (by simp), if_neg (by simp)]
    simp only [List.take_zero, List.drop_zero]
    clear he
    go_enter Try.func42, Try.ntmps42
    go_wp2_with fail
    refine hu.mono ?_
    rintro e w1 ⟨rfl, hs1, ht1⟩
    have hs0 := hs1
    obtain ⟨A, n, cap, hB, h1, h2, h3, hr⟩ := hs1
    obtain ⟨c0, c1, f0, f1⟩ := blk2 hB
    simp only at c1
    clear h1
    go_wp2_with fail
    go_ret
    exact ⟨rfl, hs0, ht1⟩
end Go.Proofs.Ytcmjekchfgnbdaa
