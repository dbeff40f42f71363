/- The document's own answer for layer 2: numbers, ints and texts laid. -/
import Derived.Test.YtcmjekchfgnbdaaWRead
namespace Go.Proofs.Ytcmjekchfgnbdaa
open Go.RowKit
theorem ref_hi (q : Nat) (h : 128 ≤ q) : ∃ x : UInt8, (q : Int) % 128 + 128 = (x.toNat : Int) ∧ Wire.put q = x :: Wire.put (q / 128) :=
  ⟨UInt8.ofNat (q % 128 + 128), by
    have : (UInt8.ofNat (q % 128 + 128)).toNat = q % 128 + 128 := by simp; omega
    rw [this]; omega, Wire.put_hi q h⟩
set_option maxRecDepth 100000 in
set_option maxHeartbeats 800000 in
theorem refPut_own (A : Option Addr) (bs : List UInt8) (n cap m : Nat) (hn : bs.length = n) (hm : m < 2 ^ 64) (hl : n + 20 ≤ 140737488355328) (w : World) (hr : Rd w A bs) :
    Calls Try.prog 54 #[.slice A n cap, .int .u64 (m : Int)] w fun e w' => ∃ v, e = .returned v ∧ Own w' w.heap.size 5 v (bs ++ Wire.put m) ∧ Below w.heap.size w w' := by
  obtain ⟨i0, hi0, hz0, hz1, hz2⟩ := info_parts byte_info
  have HN := Lib.hid hn
  have HM := Lib.hid hm
  clear hn hm
  have hr1 : Rd (w.alloc (.cells #[] 5)) A bs := hr.below ((Below.refl _ _).alloc (Nat.le_refl _) _)
  go_enter Try.func54, Try.ntmps54
  go_wp2_with (at_builtin; refine wpList_append_rd rfl (.tmp 6) (.tmp 7) 27 rfl w.heap.size 5 i0 Try.underlying27 hi0 hz0 hz1 hz2 _ [] (by rfl) (Own.empty w w.heap.size 5 (Nat.le_refl _)) A bs n cap (by rfl) hr1 HN.out (by simp; omega) (by simp) ?_; intro v1 w1 hown1 hb1 _ _)
  rw [List.nil_append] at hown1
  have hb1' := hb1 w ((Below.refl _ _).alloc (Nat.le_refl _) _)
  clear hb1
  go_loopw [1, 5] (fun x v wr => ∃ (pre : List UInt8) (q : Nat), Wire.put m = pre ++ Wire.put q ∧ Hid (q < 2 ^ 64) ∧ x = .int .u64 (q : Int) ∧ Own wr w.heap.size 5 v (bs ++ pre) ∧ Below w.heap.size w wr) (fun x _ _ => (intOf x).toNat)
  case atStart => exact ⟨[], m, rfl, HM, rfl, by simpa using hown1, hb1'⟩
  case round =>
    clear hown1 hb1' hr1
    obtain ⟨pre, q, hpq, hq, rfl, hown, hbr⟩ := hrel
    have hple : pre.length ≤ 10 := by
      have := Wire.put_len_le m HM.out
      rw [hpq, List.length_append] at this; omega
    have HPQ := Lib.hid hpq
    clear hpq
    have hnew := fun (vs : Array Value) (bs : List UInt8) (h : vs = (bs.map Bv).toArray) => rd_const wr 5 (0, 0) vs bs h
    have hHL : Hid ((bs ++ pre).length + 1 ≤ 140737488355328) := by
      show _ ≤ _
      rw [List.length_append, HN.out]; omega
    have hq2 : (q : Int) ≤ 18446744073709551615 := by have := hq.out; omega
    by_cases hlt : 127 < q
    · obtain ⟨x, hx, hxp⟩ := ref_hi q (by omega)
      have HX := Lib.hid hx
      have HXP := Lib.hid hxp
      clear hx hxp
      have hrx := hnew #[.int .u8 ((q : Int) % 128 + 128)] [x] (by rw [HX.out]; rfl)
      have hown' : ∀ o, Own (wr.alloc o) w.heap.size 5 u5 (bs ++ pre) := fun o => hown.below ((Below.refl _ _).alloc (Nat.le_refl _) o)
      go_wp2_with (at_builtin; refine wpList_append_rd rfl (.tmp 11) (.tmp 16) 27 rfl w.heap.size 5 i0 Try.underlying27 hi0 hz0 hz1 hz2 _ (bs ++ pre) (by rfl) (hown' _) (some ⟨wr.heap.size, 0, none⟩) [x] 1 1 (by rfl) hrx rfl hHL.out (by have := hbr.size; simp; omega) ?_; intro v1 w1 hown1 hb1 _ _)
      have hb1' := hb1 w (hbr.alloc hbr.size _)
      go_roundw
      case rel =>
        refine ⟨pre ++ [x], q / 128, ?_, ?_, ?_, ?_, hb1'⟩
        · rw [HPQ.out, HXP.out]; simp
        · have := hq.out; exact (by omega : q / 128 < 2 ^ 64)
        · go_num
        · rw [List.append_assoc] at hown1; exact hown1
      case measure => simp [intOf]; omega
    · have hq128 : q < 128 := by omega
      have hbx := byte_of q hq128
      have HBX := Lib.hid hbx
      clear hbx
      have hrx := hnew #[.int .u8 (q : Int)] [UInt8.ofNat q] (by rw [HBX.out]; rfl)
      have hown' : ∀ o, Own (wr.alloc o) w.heap.size 5 u5 (bs ++ pre) := fun o => hown.below ((Below.refl _ _).alloc (Nat.le_refl _) o)
      go_wp2_with (at_builtin; refine wpList_append_rd rfl (.tmp 20) (.tmp 23) 27 rfl w.heap.size 5 i0 Try.underlying27 hi0 hz0 hz1 hz2 _ (bs ++ pre) (by rfl) (hown' _) (some ⟨wr.heap.size, 0, none⟩) [UInt8.ofNat q] 1 1 (by rfl) hrx rfl hHL.out (by have := hbr.size; simp; omega) ?_; intro v1 w1 hown1 hb1 _ _)
      have hb1' := hb1 w (hbr.alloc hbr.size _)
      go_ret
      refine ⟨_, rfl, ?_, hb1'⟩
      rw [HPQ.out, Wire.put_lo q hq128, ← List.append_assoc]
      exact hown1
theorem refPut_at (A : Option Addr) (bs : List UInt8) (n cap m L : Nat) (hn : bs.length = n) (hL : n + (Wire.put m).length = L) (hm : m < 2 ^ 64) (hl : n + 20 ≤ 140737488355328) (w : World) (hr : Rd w A bs) :
    Calls Try.prog 54 #[.slice A n cap, .int .u64 (m : Int)] w fun e w' => ∃ D c, e = .returned (.slice D L c) ∧ Below w.heap.size w w' ∧ Rd w' D (bs ++ Wire.put m) := by
  refine (refPut_own A bs n cap m hn hm hl w hr).mono ?_
  rintro e w' ⟨v, rfl, ho, hb⟩
  obtain ⟨D, c, rfl, _, hr'⟩ := ho.rd
  refine ⟨D, c, ?_, hb, hr'⟩
  rw [List.length_append, hn, hL]
theorem ref_neg (n : Int) (h1 : -9223372036854775808 ≤ n) (h : n < 0) : ((Wire.zig n : Nat) : Int) = 2 * (-1 - n) + 1 := by
  unfold Wire.zig
  rw [if_pos h]; omega
theorem ref_pos (n : Int) (h : ¬ n < 0) : ((Wire.zig n : Nat) : Int) = 2 * n := by
  unfold Wire.zig
  rw [if_neg h]; omega
set_option maxRecDepth 100000 in
theorem refPutInt_at (A : Option Addr) (bs : List UInt8) (n cap L : Nat) (m : Int) (hn : bs.length = n) (hL : n + (Wire.put (Wire.zig m)).length = L) (h1 : -9223372036854775808 ≤ m) (h2 : m ≤ 9223372036854775807) (hl : n + 20 ≤ 140737488355328) (w : World) (hr : Rd w A bs) :
    Calls Try.prog 55 #[.slice A n cap, .int .i64 m] w fun e w' => ∃ D c, e = .returned (.slice D L c) ∧ Below w.heap.size w w' ∧ Rd w' D (bs ++ Wire.put (Wire.zig m)) := by
  have hc := refPut_at A bs n cap (Wire.zig m) L hn hL (Wire.zig_lt m h1 h2) hl w hr
  clear hn hL
  by_cases h : m < 0
  · have hd : decide (m < 0) = true := by simpa using h
    rw [ref_neg m h1 h] at hc
    go_enter Try.func55, Try.ntmps55
    go_wp2_with fail
    refine hc.mono ?_
    rintro e w1 ⟨D, c, rfl, hb, hr'⟩
    go_wp2_with fail
    go_ret
    exact ⟨D, c, rfl, hb, hr'⟩
  · have hd : decide (m < 0) = false := by simpa using h
    rw [ref_pos m h] at hc
    go_enter Try.func55, Try.ntmps55
    go_wp2_with fail
    refine hc.mono ?_
    rintro e w1 ⟨D, c, rfl, hb, hr'⟩
    go_wp2_with fail
    go_ret
    exact ⟨D, c, rfl, hb, hr'⟩
theorem own_text {w : World} {base : Nat} {e : TypeId} {v : Value} {bs ss : List UInt8} (h : w.ownsRow base e 1 v (bs.length + (⟨ss.toArray⟩ : ByteArray).size) (bs.map Bv ++ Lib.strCells ⟨ss.toArray⟩)) : Own w base e v (bs ++ ss) := by
  have e1 : Lib.strCells ⟨ss.toArray⟩ = ss.map Bv := by simp [Lib.strCells, Bv]
  rw [e1] at h
  unfold Own
  rw [List.length_append, List.map_append]; exact h
set_option maxRecDepth 100000 in
set_option maxHeartbeats 800000 in
theorem refPutText_own (A : Option Addr) (bs ss : List UInt8) (n cap k : Nat) (hn : bs.length = n) (hk : ss.length = k) (hl : n + k + 40 ≤ 140737488355328) (w : World) (hr : Rd w A bs) :
    Calls Try.prog 36 #[.slice A n cap, .string ⟨ss.toArray⟩] w fun e w' => ∃ v, e = .returned v ∧ Own w' w.heap.size 5 v (bs ++ Wire.text ss) ∧ Below w.heap.size w w' := by
  obtain ⟨i0, hi0, hz0, hz1, hz2⟩ := info_parts byte_info
  have HKK : Hid (k < 2 ^ 64) := by show _ < _; omega
  have hsz : (⟨ss.toArray⟩ : ByteArray).size = k := hk
  have HS := Lib.hid hsz
  have hpl := Wire.put_len_le k HKK.out
  have hc := refPut_own A bs n cap k hn HKK.out (by omega) w hr
  have HT : Hid (Wire.text ss = Wire.put k ++ ss) := by
    show _ = _
    rw [← hk]; rfl
  have HN := Lib.hid hn
  clear hn hk
  have hkl : k ≤ 140737488355328 := by omega
  go_enter Try.func36, Try.ntmps36
  go_wp2_with fail
  refine hc.mono ?_
  rintro e w1 ⟨v, rfl, ho, hb⟩
  have HB1 : Hid ((bs ++ Wire.put k).length + (⟨ss.toArray⟩ : ByteArray).size ≤ maxLen) := by
    show _ ≤ _
    rw [List.length_append, HN.out, HS.out]; unfold maxLen; omega
  have HB2 : Hid ((bs ++ Wire.put k).length + (⟨ss.toArray⟩ : ByteArray).size ≤ 140737488355328) := by
    show _ ≤ _
    rw [List.length_append, HN.out, HS.out]; omega
  go_wp2_with (at_builtin; refine Lib.wpList_append_own_string w1 rfl (.tmp 9) (.tmp 10) 27 9 rfl w.heap.size 5 i0 Try.underlying27 Try.underlying9 hi0 hz0 hz1 hz2 v (bs ++ Wire.put k).length ((bs ++ Wire.put k).map Bv) (by rfl) ho ⟨ss.toArray⟩ (by rfl) HB1.out HB2.out hb.size ?_; intro v2 w2 ho2 hg2 _)
  go_ret
  have ho3 := own_text ho2
  rw [List.append_assoc, ← HT.out] at ho3
  exact ⟨_, rfl, ho3, hb.grown hg2 hb.size ho.base_le⟩
theorem refPutText_at (A : Option Addr) (bs ss : List UInt8) (n cap k L : Nat) (hn : bs.length = n) (hk : ss.length = k) (hL : n + (Wire.text ss).length = L) (hl : n + k + 40 ≤ 140737488355328) (w : World) (hr : Rd w A bs) :
    Calls Try.prog 36 #[.slice A n cap, .string ⟨ss.toArray⟩] w fun e w' => ∃ D c, e = .returned (.slice D L c) ∧ Below w.heap.size w w' ∧ Rd w' D (bs ++ Wire.text ss) := by
  refine (refPutText_own A bs ss n cap k hn hk hl w hr).mono ?_
  rintro e w' ⟨v, rfl, ho, hb⟩
  obtain ⟨D, c, rfl, _, hr'⟩ := ho.rd
  refine ⟨D, c, ?_, hb, hr'⟩
  rw [List.length_append, hn, hL]
end Go.Proofs.Ytcmjekchfgnbdaa
