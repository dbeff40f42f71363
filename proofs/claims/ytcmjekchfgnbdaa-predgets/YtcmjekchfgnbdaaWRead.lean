/- Package wire: On, Num, Int, Upto, Text. -/
import Derived.Test.YtcmjekchfgnbdaaWScan
namespace Go.Proofs.Ytcmjekchfgnbdaa
open Go.RowKit
set_option maxRecDepth 100000 in
theorem on_at (A : Option Addr) (bs : List UInt8) (n cap : Nat) (hn : bs.length = n) (hl : n ≤ 140737488355328) (w : World) (hr : Rd w A bs) :
    Calls Try.prog 18 #[.slice A n cap] w fun e w' => ∃ g, e = .returned (.pointer (some ⟨g, 0, none⟩)) ∧ w.heap.size ≤ g ∧ Below w.heap.size w w' ∧ Sc w' g 64 ⟨bs, 0⟩ := by
  have HN := Lib.hid hn
  clear hn
  go_enter Try.func18, Try.ntmps18
  go_wp2_with fail
  refine (copied_at A bs n cap 0 n _ rfl HN.out rfl hl w hr).mono ?_
  rintro e w1 ⟨g, Z, rfl, hg, hb, hB, hZ⟩
  obtain rfl : Z = [] := List.eq_nil_of_length_eq_zero hZ
  clear hZ
  go_wp2_with fail
  go_ret
  refine ⟨w1.heap.size, rfl, hb.size, hb.alloc hb.size _, ?_⟩
  rw [List.append_nil] at hB
  exact ⟨some ⟨g, 0, none⟩, n, n, Blk.new _ _ _, HN.out, Nat.le_refl _, hl, (hB.alloc _).rd⟩
/-- What a reading leaves: the value's kind and number, the scan's state, only its block turned. -/
def Reads (w : World) (g : Nat) (T : TypeId) (v : Value) (s : Wire.St) (e : Ending) (w' : World) : Prop := e = .returned v ∧ Sc w' g T s ∧ Touch g w w'
set_option maxRecDepth 100000 in
set_option maxHeartbeats 800000 in
theorem num_at (w : World) (g : Nat) (s : Wire.St) (h : Sc w g 64 s) :
    Calls Try.prog 67 #[.pointer (some ⟨g, 0, none⟩)] w (Reads w g 64 (.int .u64 (s.numV : Int)) s.numS) := by
  have h0 := h
  obtain ⟨A, n, cap, hB, h1, h2, h3, hr⟩ := h
  obtain ⟨c0, c1, f0, f1⟩ := blk2 hB
  have hle := Wire.num_le s.rest
  have hlt := Wire.num_lt s.rest
  have hbad := Wire.num_bad s.rest
  obtain ⟨rest, err⟩ := s
  simp only [Wire.St.numV, Wire.St.numS] at *
  have hnum := number_at A rest n cap h1 (by omega) w hr
  rcases hq : Wire.num rest with ⟨v, k, e⟩
  rw [hq] at hle hlt hbad hnum
  simp only at hle hlt hbad hnum
  have HL := Lib.hid h1
  have HV := Lib.hid hlt
  clear h1 hlt hq
  have hk : k ≤ n := by rw [HL.out] at hle; exact hle
  clear hle
  by_cases he : e = 0
  · subst he
    obtain ⟨A', hcut, hr'⟩ := run_cut hr HL.out hk h2
    have HK := Lib.hid hk
    clear hk
    go_enter Try.func67, Try.ntmps67
    go_wp2_with fail
    refine hnum.mono ?_
    rintro e w1 ⟨rfl, rfl⟩
    go_wp2_with fail
    go_ret
    refine ⟨rfl, ?_, (Touch.refl _ _).set_ _ _⟩
    have hT : Touch g w (w.setCell ⟨g, 0, none⟩ (.slice A' (n - k) (cap - k))) := (Touch.refl _ _).set_ _ _
    exact ⟨A', n - k, cap - k, hB.put 0 _, by simp [HL.out], by omega, by omega, hT.rd hr' (rd_apart hB hr')⟩
  · have hb := hbad he
    obtain ⟨rfl, rfl, _⟩ := hb
    clear hbad
    have hd : ((e : Int) != 0) = true := by simpa using he
    go_enter Try.func67, Try.ntmps67
    go_wp2_with fail
    refine hnum.mono ?_
    rintro e1 w1 ⟨rfl, rfl⟩
    go_wp2_with fail
    refine (fail_at w g ⟨rest, err⟩ h0 _).mono ?_
    rintro e1 w1 ⟨rfl, hs1, ht1⟩
    go_wp2_with fail
    go_ret
    exact ⟨rfl, hs1, ht1⟩
theorem unfold_eq (n : Nat) (h : n < 2 ^ 64) : bits .xor .i64 (wrap64 ((n : Int) / 2)) (wrap64 (IntKind.u64.wrap ((n : Int) * 9223372036854775808)) / 9223372036854775808) = Wire.zag n := by
  rw [IntKind.wrap_u64]
  unfold wrap64
  unfold Wire.zag
  have e1 : ((n : Int) / 2 + 9223372036854775808) % 18446744073709551616 - 9223372036854775808 = ((n / 2 : Nat) : Int) := by omega
  rw [e1]
  by_cases h1 : n % 2 = 1
  · rw [if_pos h1, show ((n : Int) * 9223372036854775808 % 18446744073709551616 + 9223372036854775808) % 18446744073709551616 - 9223372036854775808 = -9223372036854775808 by omega]
    have := Lib.i64_not (n / 2) (by omega)
    rw [show (-9223372036854775808 : Int) / 9223372036854775808 = -1 from rfl]
    have hc : bits .xor .i64 ((n / 2 : Nat) : Int) (-1) = bits .xor .i64 (-1) ((n / 2 : Nat) : Int) := by
      unfold bits; simp only [BitVec.xor_comm]
    rw [hc, this]; omega
  · rw [if_neg h1, show ((n : Int) * 9223372036854775808 % 18446744073709551616 + 9223372036854775808) % 18446744073709551616 - 9223372036854775808 = 0 by omega]
    rw [show (0 : Int) / 9223372036854775808 = 0 from rfl]
    show IntKind.i64.wrap ((BitVec.ofInt 64 ((n / 2 : Nat) : Int) ^^^ BitVec.ofInt 64 0).toNat : Int) = _
    have h2 : (BitVec.ofInt 64 ((n / 2 : Nat) : Int)).toNat = n / 2 := by
      rw [BitVec.ofInt_natCast, BitVec.toNat_ofNat]; exact Nat.mod_eq_of_lt (by omega)
    have h3 : (BitVec.ofInt 64 0).toNat = 0 := rfl
    rw [BitVec.toNat_xor, h2, h3, Nat.xor_zero, IntKind.wrap_i64]
    omega
theorem unfolded_any (n : Nat) (h : n < 2 ^ 64) (w : World) :
    Calls Try.prog 70 #[.int .u64 (n : Int)] w fun e w' => e = .returned (.int .i64 (Wire.zag n)) ∧ w = w' := by
  have HE := Lib.hid (unfold_eq n h)
  clear h
  go_enter Try.func70, Try.ntmps70
  go_wp2
  go_ret
  refine ⟨?_, rfl⟩
  exact ret_int HE.out
theorem int_at (w : World) (g : Nat) (s : Wire.St) (h : Sc w g 64 s) :
    Calls Try.prog 68 #[.pointer (some ⟨g, 0, none⟩)] w (Reads w g 64 (.int .i64 (Wire.zag s.numV)) s.numS) := by
  have HV := Lib.hid (Wire.num_lt s.rest)
  go_enter Try.func68, Try.ntmps68
  go_wp2_with fail
  refine (num_at w g s h).mono ?_
  rintro e w1 ⟨rfl, hs1, ht1⟩
  go_wp2_with fail
  refine (unfolded_any s.numV HV.out _).mono ?_
  rintro e w2 ⟨rfl, rfl⟩
  go_wp2_with fail
  go_ret
  exact ⟨rfl, hs1, ht1⟩
set_option maxRecDepth 100000 in
set_option maxHeartbeats 800000 in
theorem upto_at (w : World) (g : Nat) (s : Wire.St) (h : Sc w g 64 s) (m : Int) (hm1 : -9223372036854775808 ≤ m) (hm2 : m ≤ 9223372036854775807) :
    Calls Try.prog 58 #[.pointer (some ⟨g, 0, none⟩), .int .i64 m] w (Reads w g 64 (.int .i64 (s.uptoV m : Int)) (s.uptoS m)) := by
  have hn := num_at w g s h
  unfold Wire.St.uptoV Wire.St.uptoS Wire.St.over
  have HV : Hid (s.numV < 2 ^ 64) := Wire.num_lt s.rest
  generalize s.numS = s1 at *
  generalize s.numV = v at *
  by_cases h0 : m < 0
  · have hd : decide (m < 0) = true := by simpa using h0
    rw [hd, Bool.true_or, if_pos rfl, if_pos rfl]
    go_enter Try.func58, Try.ntmps58
    go_wp2_with fail
    refine hn.mono ?_
    rintro e w1 ⟨rfl, hs1, ht1⟩
    go_wp2_with fail
    refine (fail_at w1 g s1 hs1 _).mono ?_
    rintro e w2 ⟨rfl, hs2, ht2⟩
    go_wp2_with fail
    go_ret
    exact ⟨rfl, hs2, ht1.trans ht2⟩
  · obtain ⟨k, rfl⟩ := Int.eq_ofNat_of_zero_le (show 0 ≤ m by omega)
    have hd : decide ((k : Int) < 0) = false := by simp
    rw [hd, Bool.false_or]
    have hk : k ≤ 9223372036854775807 := by omega
    clear hm1 hm2 h0
    by_cases hv : k < v
    · have hd2 : decide ((k : Int) < (v : Int)) = true := by simpa using hv
      have hd3 : decide (k < v) = true := by simpa using hv
      rw [hd2, if_pos rfl, if_pos rfl]
      go_enter Try.func58, Try.ntmps58
      go_wp2_with fail
      refine hn.mono ?_
      rintro e w1 ⟨rfl, hs1, ht1⟩
      go_wp2_with fail
      refine (fail_at w1 g s1 hs1 _).mono ?_
      rintro e w2 ⟨rfl, hs2, ht2⟩
      go_wp2_with fail
      go_ret
      exact ⟨rfl, hs2, ht1.trans ht2⟩
    · have hd2 : decide ((k : Int) < (v : Int)) = false := by simpa using hv
      have hd3 : decide (k < v) = false := by simpa using hv
      have hv2 : v ≤ k := by omega
      rw [hd2, if_neg (by simp), if_neg (by simp)]
      go_enter Try.func58, Try.ntmps58
      go_wp2_with fail
      refine hn.mono ?_
      rintro e w1 ⟨rfl, hs1, ht1⟩
      go_wp2_with fail
      go_ret
      exact ⟨rfl, hs1, ht1⟩
set_option maxRecDepth 100000 in
set_option maxHeartbeats 800000 in
theorem text_at (w : World) (g : Nat) (s : Wire.St) (h : Sc w g 64 s) (m : Int) (hm1 : -9223372036854775808 ≤ m) (hm2 : m ≤ 9223372036854775807) :
    Calls Try.prog 56 #[.pointer (some ⟨g, 0, none⟩), .int .i64 m] w (Reads w g 64 (.string ⟨(s.textV m).toArray⟩) (s.textS m)) := by
  have hu := upto_at w g s h m hm1 hm2
  unfold Wire.St.textV Wire.St.textS
  generalize s.uptoS m = s1 at *
  have hk : s.uptoV m ≤ 9223372036854775807 := by
    unfold Wire.St.uptoV Wire.St.over
    split
    · omega
    · rename_i h
      simp at h
      omega
  generalize s.uptoV m = k at *
  by_cases hlt : s1.rest.length < k
  · rw [if_pos hlt, if_pos hlt]
    go_enter Try.func56, Try.ntmps56
    go_wp2_with fail
    refine hu.mono ?_
    rintro e w1 ⟨rfl, hs1, ht1⟩
    have hs0 := hs1
    obtain ⟨A, n, cap, hB, h1, h2, h3, hr⟩ := hs1
    obtain ⟨c0, c1, f0, f1⟩ := blk2 hB
    rw [h1] at hlt
    clear h1
    have hd : decide (n < k) = true := by simpa using hlt
    go_wp2_with fail
    refine (fail_at w1 g s1 hs0 _).mono ?_
    rintro e w2 ⟨rfl, hs2, ht2⟩
    go_wp2_with fail
    go_ret
    exact ⟨rfl, hs2, ht1.trans ht2⟩
  · rw [if_neg hlt, if_neg hlt]
    go_enter Try.func56, Try.ntmps56
    go_wp2_with fail
    refine hu.mono ?_
    rintro e w1 ⟨rfl, hs1, ht1⟩
    obtain ⟨A, n, cap, hB, h1, h2, h3, hr⟩ := hs1
    obtain ⟨c0, c1, f0, f1⟩ := blk2 hB
    rw [h1] at hlt
    have HL := Lib.hid h1
    clear h1
    have hd : decide (n < k) = false := by simpa using hlt
    have hkn : k ≤ n := by omega
    obtain ⟨A', hcut, hr'⟩ := run_cut hr HL.out hkn h2
    have hhd := run_head A n cap k hkn h2
    have hst := run_str (P := Try.prog) w1 A (s1.rest.take k) k cap (hr.take k) (by rw [List.length_take, HL.out]; omega) 27 5 9 Try.underlying27 Try.underlying5 Try.underlying9
    have HK := Lib.hid hkn
    clear hkn hlt
    go_wp2_with fail
    go_ret
    refine ⟨rfl, ?_, ht1.set_ _ _⟩
    have hT : Touch g w1 (w1.setCell ⟨g, 0, none⟩ (.slice A' (n - k) (cap - k))) := (Touch.refl _ _).set_ _ _
    exact ⟨A', n - k, cap - k, hB.put 0 _, by simp [HL.out], by have := HK.out; omega, by omega, hT.rd hr' (rd_apart hB hr')⟩
theorem num_is (w : World) (g : Nat) (s s' : Wire.St) (v : Nat) (h : Sc w g 64 s) (hv : s.numV = v) (hs : s.numS = s') :
    Calls Try.prog 67 #[.pointer (some ⟨g, 0, none⟩)] w (Reads w g 64 (.int .u64 (v : Int)) s') := by
  subst hv; subst hs; exact num_at w g s h
theorem int_is (w : World) (g : Nat) (s s' : Wire.St) (v : Int) (h : Sc w g 64 s) (hv : Wire.zag s.numV = v) (hs : s.numS = s') :
    Calls Try.prog 68 #[.pointer (some ⟨g, 0, none⟩)] w (Reads w g 64 (.int .i64 v) s') := by
  subst hv; subst hs; exact int_at w g s h
theorem upto_is (w : World) (g : Nat) (s s' : Wire.St) (v : Nat) (h : Sc w g 64 s) (m : Int) (hm1 : -9223372036854775808 ≤ m) (hm2 : m ≤ 9223372036854775807) (hv : s.uptoV m = v) (hs : s.uptoS m = s') :
    Calls Try.prog 58 #[.pointer (some ⟨g, 0, none⟩), .int .i64 m] w (Reads w g 64 (.int .i64 (v : Int)) s') := by
  subst hv; subst hs; exact upto_at w g s h m hm1 hm2
theorem text_is (w : World) (g : Nat) (s s' : Wire.St) (v : List UInt8) (h : Sc w g 64 s) (m : Int) (hm1 : -9223372036854775808 ≤ m) (hm2 : m ≤ 9223372036854775807) (hv : s.textV m = v) (hs : s.textS m = s') :
    Calls Try.prog 56 #[.pointer (some ⟨g, 0, none⟩), .int .i64 m] w (Reads w g 64 (.string ⟨v.toArray⟩) s') := by
  subst hv; subst hs; exact text_at w g s h m hm1 hm2
/-- One scan's reading leaves another one as it was. -/
theorem Touch.sc {g g' : Nat} {T T' : TypeId} {w w' : World} {s s' : Wire.St} (h : Touch g w w') (hg : Sc w g T s) (hg' : Sc w g' T' s') (hne : g' ≠ g) : Sc w' g' T' s' := by
  obtain ⟨A, n, cap, hB, _⟩ := hg
  obtain ⟨A', n', cap', hB', h1, h2, h3, hr⟩ := hg'
  exact ⟨A', n', cap', h.blk hB' hne, h1, h2, h3, h.rd hr (rd_apart hB hr)⟩
theorem Sc.drew {w : World} {g : Nat} {t : TypeId} {s : Wire.St} (h : Sc w g t s) : Sc w.drew g t s := h
theorem Sc.drewN {w : World} {g : Nat} {t : TypeId} {s : Wire.St} (h : Sc w g t s) (n : Nat) : Sc (w.drewN n) g t s := h
theorem Touch.rd_sc {g : Nat} {T : TypeId} {w w' : World} {s : Wire.St} {A : Option Addr} {bs : List UInt8} (h : Touch g w w') (hg : Sc w g T s) (hr : Rd w A bs) : Rd w' A bs := by
  obtain ⟨_, n, cap, hB, _⟩ := hg
  exact h.rd hr (rd_apart hB hr)
theorem text_ab : Wire.text [97, 98] = [2, 97, 98] := by
  unfold Wire.text
  rw [show ([97, 98] : List UInt8).length = 2 from rfl, Wire.put_lo _ (by decide)]; rfl
end Go.Proofs.Ytcmjekchfgnbdaa
