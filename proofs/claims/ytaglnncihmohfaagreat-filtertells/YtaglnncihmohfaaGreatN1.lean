/- Contracts of the program and of the document (WRef, VRefPut, PRefPut), each used further on. -/
import Derived.Test.YtaglnncihmohfaaGreatM1
import Derived.Test.YtaglnncihmohfaaGreatA3
set_option maxRecDepth 100000
set_option maxHeartbeats 4000000
namespace Go.Proofs.YtaglnncihmohfaaGreat
open Go.RowKit
theorem ref_hi (q : Nat) (h : 128 <= q) : ∃ x : UInt8, (q : Int) % 128 + 128 = (x.toNat : Int) /\ Wire.put q = x :: Wire.put (q / 128) :=
 ⟨UInt8.ofNat (q % 128 + 128), by
  have : (UInt8.ofNat (q % 128 + 128)).toNat = q % 128 + 128 := by simp; omega
  rw [this]; omega, Wire.put_hi q h⟩
theorem refPut_own (A : Option Addr) (bs : List UInt8) (n cap m : Nat) (hn : bs.length = n) (hm : m < 2 ^ 64) (hl : n + 20 <= 140737488355328) (w : World) (hr : Rd w A bs) :
  Calls Tryz.prog 69 #[.slice A n cap, .int .u64 (m : Int)] w fun e w' => ∃ v, e = .returned v /\ Own w' w.heap.size 5 v (bs ++ Wire.put m) /\ Below w.heap.size w w' := by
 obtain ⟨i0, hi0, hz0, hz1, hz2⟩ := info_parts byte_info
 have HN := Lib.hid hn
 have HM := Lib.hid hm
 clear hn hm
 have hr1 : Rd (w.alloc (.cells #[] 5)) A bs := hr.below ((Below.refl _ _).alloc (Nat.le_refl _) _)
 go_enter Tryz.func69, Tryz.ntmps69
 go_wp2_with (at_builtin; refine wpList_append_rd rfl (.tmp 6) (.tmp 7) 24 rfl w.heap.size 5 i0 Tryz.underlying24 hi0 hz0 hz1 hz2 _ [] (by rfl) (Own.empty w w.heap.size 5 (Nat.le_refl _)) A bs n cap (by rfl) hr1 HN.out (by simp; omega) (by simp) ?_; intro v1 w1 hown1 hb1 _ _)
 rw [List.nil_append] at hown1
 have hb1' := hb1 w ((Below.refl _ _).alloc (Nat.le_refl _) _)
 clear hb1
 go_loopw [1, 5] (fun x v wr => ∃ (pre : List UInt8) (q : Nat), Wire.put m = pre ++ Wire.put q /\ Hid (q < 2 ^ 64) /\ x = .int .u64 (q : Int) /\ Own wr w.heap.size 5 v (bs ++ pre) /\ Below w.heap.size w wr) (fun x _ _ => (intOf x).toNat)
 case atStart => exact ⟨[], m, rfl, HM, rfl, by simpa using hown1, hb1'⟩
 case round =>
  clear hown1 hb1' hr1
  obtain ⟨pre, q, hpq, hq, rfl, hown, hbr⟩ := hrel
  have hple : pre.length <= 10 := by
   have := Wire.put_len_le m HM.out
   rw [hpq, List.length_append] at this; omega
  have HPQ := Lib.hid hpq
  clear hpq
  have hnew := fun (vs : Array Value) (bs : List UInt8) (h : vs = (bs.map Bv).toArray) => rd_const wr 5 (0, 0) vs bs h
  have hHL : Hid ((bs ++ pre).length + 1 <= 140737488355328) := by
   show _ <= _
   rw [List.length_append, HN.out]; omega
  have hq2 : (q : Int) <= 18446744073709551615 := by have := hq.out; omega
  by_cases hlt : 127 < q
  ·obtain ⟨x, hx, hxp⟩ := ref_hi q (by omega)
   have HX := Lib.hid hx
   have HXP := Lib.hid hxp
   clear hx hxp
   have hrx := hnew #[.int .u8 ((q : Int) % 128 + 128)] [x] (by rw [HX.out]; rfl)
   have hown' : ∀ o, Own (wr.alloc o) w.heap.size 5 u5 (bs ++ pre) := fun o => hown.below ((Below.refl _ _).alloc (Nat.le_refl _) o)
   go_wp2_with (at_builtin; refine wpList_append_rd rfl (.tmp 11) (.tmp 16) 24 rfl w.heap.size 5 i0 Tryz.underlying24 hi0 hz0 hz1 hz2 _ (bs ++ pre) (by rfl) (hown' _) (some ⟨wr.heap.size, 0, none⟩) [x] 1 1 (by rfl) hrx rfl hHL.out (by have := hbr.size; simp; omega) ?_; intro v1 w1 hown1 hb1 _ _)
   have hb1' := hb1 w (hbr.alloc hbr.size _)
   go_roundw
   case rel =>
    refine ⟨pre ++ [x], q / 128, ?_, ?_, ?_, ?_, hb1'⟩
    ·rw [HPQ.out, HXP.out]; simp
    ·have := hq.out; exact (by omega : q / 128 < 2 ^ 64)
    ·go_num
    ·rw [List.append_assoc] at hown1; exact hown1
   case measure => simp [intOf]; omega
  ·have hq128 : q < 128 := by omega
   have hbx := byte_of q hq128
   have HBX := Lib.hid hbx
   clear hbx
   have hrx := hnew #[.int .u8 (q : Int)] [UInt8.ofNat q] (by rw [HBX.out]; rfl)
   have hown' : ∀ o, Own (wr.alloc o) w.heap.size 5 u5 (bs ++ pre) := fun o => hown.below ((Below.refl _ _).alloc (Nat.le_refl _) o)
   go_wp2_with (at_builtin; refine wpList_append_rd rfl (.tmp 20) (.tmp 23) 24 rfl w.heap.size 5 i0 Tryz.underlying24 hi0 hz0 hz1 hz2 _ (bs ++ pre) (by rfl) (hown' _) (some ⟨wr.heap.size, 0, none⟩) [UInt8.ofNat q] 1 1 (by rfl) hrx rfl hHL.out (by have := hbr.size; simp; omega) ?_; intro v1 w1 hown1 hb1 _ _)
   have hb1' := hb1 w (hbr.alloc hbr.size _)
   go_ret
   refine ⟨_, rfl, ?_, hb1'⟩
   rw [HPQ.out, Wire.put_lo q hq128, <- List.append_assoc]
   exact hown1
theorem refPut_at (A : Option Addr) (bs : List UInt8) (n cap m L : Nat) (hn : bs.length = n) (hL : n + (Wire.put m).length = L) (hm : m < 2 ^ 64) (hl : n + 20 <= 140737488355328) (w : World) (hr : Rd w A bs) :
  Calls Tryz.prog 69 #[.slice A n cap, .int .u64 (m : Int)] w fun e w' => ∃ D c, e = .returned (.slice D L c) /\ Below w.heap.size w w' /\ Rd w' D (bs ++ Wire.put m) := by
 refine (refPut_own A bs n cap m hn hm hl w hr).mono ?_
 rintro e w' ⟨v, rfl, ho, hb⟩
 obtain ⟨D, c, rfl, _, hr'⟩ := ho.rd
 refine ⟨D, c, ?_, hb, hr'⟩
 rw [List.length_append, hn, hL]
theorem ref_neg (n : Int) (h1 : -9223372036854775808 <= n) (h : n < 0) : ((Wire.zig n : Nat) : Int) = 2 * (-1 - n) + 1 := by
 unfold Wire.zig
 rw [if_pos h]; omega
theorem ref_pos (n : Int) (h : ¬ n < 0) : ((Wire.zig n : Nat) : Int) = 2 * n := by
 unfold Wire.zig
 rw [if_neg h]; omega
theorem refPutInt_at (A : Option Addr) (bs : List UInt8) (n cap L : Nat) (m : Int) (hn : bs.length = n) (hL : n + (Wire.put (Wire.zig m)).length = L) (h1 : -9223372036854775808 <= m) (h2 : m <= 9223372036854775807) (hl : n + 20 <= 140737488355328) (w : World) (hr : Rd w A bs) :
  Calls Tryz.prog 171 #[.slice A n cap, .int .i64 m] w fun e w' => ∃ D c, e = .returned (.slice D L c) /\ Below w.heap.size w w' /\ Rd w' D (bs ++ Wire.put (Wire.zig m)) := by
 have hc := refPut_at A bs n cap (Wire.zig m) L hn hL (Wire.zig_lt m h1 h2) hl w hr
 clear hn hL
 by_cases h : m < 0
 ·have hd : decide (m < 0) = true := by simpa using h
  rw [ref_neg m h1 h] at hc
  go_enter Tryz.func171, Tryz.ntmps171
  go_wp2_with fail
  refine hc.mono ?_
  rintro e w1 ⟨D, c, rfl, hb, hr'⟩
  go_wp2_with fail
  go_ret
  exact ⟨D, c, rfl, hb, hr'⟩
 ·have hd : decide (m < 0) = false := by simpa using h
  rw [ref_pos m h] at hc
  go_enter Tryz.func171, Tryz.ntmps171
  go_wp2_with fail
  refine hc.mono ?_
  rintro e w1 ⟨D, c, rfl, hb, hr'⟩
  go_wp2_with fail
  go_ret
  exact ⟨D, c, rfl, hb, hr'⟩
theorem own_text {w : World} {base : Nat} {e : TypeId} {v : Value} {bs ss : List UInt8} (h : w.ownsRow base e 1 v (bs.length + (⟨ss.toArray⟩ : ByteArray).size) (bs.map Bv ++ Lib.strCells ⟨ss.toArray⟩)) : Own w base e v (bs ++ ss) := by
 have e1 : Lib.strCells ⟨ss.toArray⟩ = ss.map Bv := by simp [Lib.strCells, Bv]
 rw [e1] at h
 unfold Own
 rw [List.length_append, List.map_append]; exact h
theorem refPutText_own (A : Option Addr) (bs ss : List UInt8) (n cap k : Nat) (hn : bs.length = n) (hk : ss.length = k) (hl : n + k + 40 <= 140737488355328) (w : World) (hr : Rd w A bs) :
  Calls Tryz.prog 76 #[.slice A n cap, .string ⟨ss.toArray⟩] w fun e w' => ∃ v, e = .returned v /\ Own w' w.heap.size 5 v (bs ++ Wire.text ss) /\ Below w.heap.size w w' := by
 obtain ⟨i0, hi0, hz0, hz1, hz2⟩ := info_parts byte_info
 have HKK : Hid (k < 2 ^ 64) := by show _ < _; omega
 have hsz : (⟨ss.toArray⟩ : ByteArray).size = k := hk
 have HS := Lib.hid hsz
 have hpl := Wire.put_len_le k HKK.out
 have hc := refPut_own A bs n cap k hn HKK.out (by omega) w hr
 have HT : Hid (Wire.text ss = Wire.put k ++ ss) := by
  show _ = _
  rw [<- hk]; rfl
 have HN := Lib.hid hn
 clear hn hk
 have hkl : k <= 140737488355328 := by omega
 go_enter Tryz.func76, Tryz.ntmps76
 go_wp2_with fail
 refine hc.mono ?_
 rintro e w1 ⟨v, rfl, ho, hb⟩
 have HB1 : Hid ((bs ++ Wire.put k).length + (⟨ss.toArray⟩ : ByteArray).size <= maxLen) := by
  show _ <= _
  rw [List.length_append, HN.out, HS.out]; unfold maxLen; omega
 have HB2 : Hid ((bs ++ Wire.put k).length + (⟨ss.toArray⟩ : ByteArray).size <= 140737488355328) := by
  show _ <= _
  rw [List.length_append, HN.out, HS.out]; omega
 go_wp2_with (at_builtin; refine Lib.wpList_append_own_string w1 rfl (.tmp 9) (.tmp 10) 24 9 rfl w.heap.size 5 i0 Tryz.underlying24 Tryz.underlying9 hi0 hz0 hz1 hz2 v (bs ++ Wire.put k).length ((bs ++ Wire.put k).map Bv) (by rfl) ho ⟨ss.toArray⟩ (by rfl) HB1.out HB2.out hb.size ?_; intro v2 w2 ho2 hg2 _)
 go_ret
 have ho3 := own_text ho2
 rw [List.append_assoc, <- HT.out] at ho3
 exact ⟨_, rfl, ho3, hb.grown hg2 hb.size ho.base_le⟩
theorem refPutText_at (A : Option Addr) (bs ss : List UInt8) (n cap k L : Nat) (hn : bs.length = n) (hk : ss.length = k) (hL : n + (Wire.text ss).length = L) (hl : n + k + 40 <= 140737488355328) (w : World) (hr : Rd w A bs) :
  Calls Tryz.prog 76 #[.slice A n cap, .string ⟨ss.toArray⟩] w fun e w' => ∃ D c, e = .returned (.slice D L c) /\ Below w.heap.size w w' /\ Rd w' D (bs ++ Wire.text ss) := by
 refine (refPutText_own A bs ss n cap k hn hk hl w hr).mono ?_
 rintro e w' ⟨v, rfl, ho, hb⟩
 obtain ⟨D, c, rfl, _, hr'⟩ := ho.rd
 refine ⟨D, c, ?_, hb, hr'⟩
 rw [List.length_append, hn, hL]
end Go.Proofs.YtaglnncihmohfaaGreat
namespace Go.Proofs.YtaglnncihmohfaaGreat
open Go.RowKit
def LaysR (w : World) (bs : List UInt8) (L : Nat) (e : Ending) (w' : World) : Prop := ∃ D c, e = .returned (.slice D L c) /\ Below w.heap.size w w' /\ Rd w' D bs
theorem rvput_wrong (A : Option Addr) (bs : List UInt8) (n cap : Nat) (k i : Int) (t : List UInt8) (hn : bs.length = n) (hl : n + 200 <= 140737488355328) (ht : t.length <= 9223372036854775807) (w : World) (hr : Rd w A bs) (hw : Vals.right k i t = false) :
  Calls Tryz.prog 118 #[.slice A n cap, .agg (vC k i t.toArray)] w (LaysR w bs n) := by
 have HW := Lib.hid hw
 clear hw
 obtain ⟨i0, hi0, hz0, hz1, hz2⟩ := info_parts byte_info
 have HN := Lib.hid hn
 clear hn
 obtain ⟨hB, hb0⟩ := box3 w 33 (.int .i64 k) (.int .i64 i) (.string ⟨t.toArray⟩)
 have hsz : (w.alloc (.cells (vC k i t.toArray) 33)).heap.size = w.heap.size + 1 := by simp
 have hr2 := (hr.below hb0).below ((Below.refl _ _).alloc (Nat.le_refl _) (.cells #[] 5))
 have hO0 := Own.empty (w.alloc (.cells (vC k i t.toArray) 33)) (w.heap.size + 1) 5 (Nat.le_of_eq hsz.symm)
 rw [hsz] at hO0
 have hbe : Below (w.heap.size + 1) (w.alloc (.cells (vC k i t.toArray) 33)) ((w.alloc (.cells (vC k i t.toArray) 33)).alloc (.cells #[] 5)) := (Below.refl _ _).alloc (Nat.le_of_eq hsz.symm) _
 go_enter Tryz.func118, Tryz.ntmps118
 go_wp2_with (at_builtin; refine wpList_append_rd rfl (.tmp 6) (.tmp 7) 24 rfl (w.heap.size + 1) 5 i0 Tryz.underlying24 hi0 hz0 hz1 hz2 _ [] (by rfl) hO0 A bs n cap (by rfl) hr2 HN.out (by simp; omega) (by simp) ?_; intro v1 w1 hO1 hb1' _ _; have hb1 := hb1' _ hbe; clear hb1'; have hB1 := hB.below hb1 (Nat.lt_succ_self _); obtain ⟨c0, c1, c2, _, _, _⟩ := blk3 hB1)
 rw [List.nil_append] at hO1
 have hbw : Below w.heap.size w w1 := hb0.trans (hb1.mono (Nat.le_succ _))
 have hs1 : w.heap.size + 1 <= w1.heap.size := by have := hb1.size; omega
 clear hO0 hr2 hbe hB hb0 hb1
 refine (refRight_is k i t w1 ht false HW.out).mono ?_
 rintro e w2 ⟨rfl, hb2⟩
 replace hO1 := hO1.below hb2
 obtain ⟨D, c, hv, hc, hr2⟩ := hO1.rd
 rw [HN.out] at hv
 subst hv
 clear c0 c1 c2
 go_wp2_with fail
 go_ret
 exact ⟨D, c, rfl, below_next hbw (Nat.le_refl _) hb2, hr2⟩
theorem rvput_int (A : Option Addr) (bs : List UInt8) (n cap L : Nat) (i : Int) (hn : bs.length = n) (hL : n + (Wire.put 1 ++ Wire.put (Wire.zig i)).length = L) (hl : n + 200 <= 140737488355328) (h1 : -9223372036854775808 <= i) (h2 : i <= 9223372036854775807) (w : World) (hr : Rd w A bs) :
  Calls Tryz.prog 118 #[.slice A n cap, .agg (vC 1 i #[])] w (LaysR w (bs ++ (Wire.put 1 ++ Wire.put (Wire.zig i))) L) := by
 have HP := Lib.hid (Wire.put_lo 1 (by decide))
 have hL' : n + 1 + (Wire.put (Wire.zig i)).length = L := by rw [HP.out] at hL; simp at hL ⊢; omega
 have HL := Lib.hid hL'
 clear hL hL'
 obtain ⟨i0, hi0, hz0, hz1, hz2⟩ := info_parts byte_info
 have HN := Lib.hid hn
 clear hn
 obtain ⟨hB, hb0⟩ := box3 w 33 (.int .i64 1) (.int .i64 i) (.string ⟨#[]⟩)
 have hsz : (w.alloc (.cells (vC 1 i #[]) 33)).heap.size = w.heap.size + 1 := by simp
 have hr2 := (hr.below hb0).below ((Below.refl _ _).alloc (Nat.le_refl _) (.cells #[] 5))
 have hO0 := Own.empty (w.alloc (.cells (vC 1 i #[]) 33)) (w.heap.size + 1) 5 (Nat.le_of_eq hsz.symm)
 rw [hsz] at hO0
 have hbe : Below (w.heap.size + 1) (w.alloc (.cells (vC 1 i #[]) 33)) ((w.alloc (.cells (vC 1 i #[]) 33)).alloc (.cells #[] 5)) := (Below.refl _ _).alloc (Nat.le_of_eq hsz.symm) _
 go_enter Tryz.func118, Tryz.ntmps118
 go_wp2_with (at_builtin; refine wpList_append_rd rfl (.tmp 6) (.tmp 7) 24 rfl (w.heap.size + 1) 5 i0 Tryz.underlying24 hi0 hz0 hz1 hz2 _ [] (by rfl) hO0 A bs n cap (by rfl) hr2 HN.out (by simp; omega) (by simp) ?_; intro v1 w1 hO1 hb1' _ _; have hb1 := hb1' _ hbe; clear hb1'; have hB1 := hB.below hb1 (Nat.lt_succ_self _); obtain ⟨c0, c1, c2, _, _, _⟩ := blk3 hB1)
 rw [List.nil_append] at hO1
 have hbw : Below w.heap.size w w1 := hb0.trans (hb1.mono (Nat.le_succ _))
 have hs1 : w.heap.size + 1 <= w1.heap.size := by have := hb1.size; omega
 clear hO0 hr2 hbe hB hb0 hb1
 refine (refRight_is 1 (i) [] w1 (by simp) true rfl).mono ?_
 rintro e w2 ⟨rfl, hb2⟩
 replace hO1 := hO1.below hb2
 have hB2 := hB1.below hb2 hB1.lt
 replace hbw := below_next hbw (Nat.le_refl _) hb2
 have hs2 : w.heap.size + 1 <= w2.heap.size := Nat.le_trans hs1 hb2.size
 clear c0 c1 c2 hB1 hb2 hs1
 obtain ⟨c0, c1, c2, _, _, _⟩ := blk3 hB2
 have hO1' : ∀ o, Own (w2.alloc o) (w.heap.size + 1) 5 v1 bs := fun o => hO1.below ((Below.refl _ _).alloc (Nat.le_refl _) o)
 have hrx := rd_const w2 5 (0, 0) #[.int .u8 1] [1] rfl
 have hbe : Below (w.heap.size + 1) w2 (w2.alloc (.cells #[.int .u8 1] 5)) := (Below.refl _ _).alloc hs2 _
 have hHL : Hid (bs.length + 1 <= 140737488355328) := by show _ <= _; rw [HN.out]; omega
 go_wp2_with (at_builtin; refine wpList_append_rd rfl (.tmp 13) (.tmp 17) 24 rfl (w.heap.size + 1) 5 i0 Tryz.underlying24 hi0 hz0 hz1 hz2 _ bs (by rfl) (hO1' _) (some ⟨w2.heap.size, 0, none⟩) [1] 1 1 (by rfl) hrx rfl hHL.out (by simp; omega) ?_; intro v3 w3 hO3 hb3' _ _; have hb3 := hb3' _ hbe; clear hb3'; have hB3 := hB2.below hb3 (Nat.lt_succ_self _); clear c0 c1 c2; obtain ⟨c0, c1, c2, _, _, _⟩ := blk3 hB3)
 obtain ⟨D, c, hv, hc, hr3⟩ := hO3.rd
 have HLN : Hid ((bs ++ [1]).length = n + 1) := by show _ = _; rw [List.length_append, HN.out]; rfl
 rw [HLN.out] at hv
 subst hv
 have hbw3 : Below w.heap.size w w3 := hbw.trans (hb3.mono (Nat.le_succ _))
 clear hO1 hO1' hO3 hb3 hbe hrx hB2 hB3 hbw hc
 refine (refPutInt_at D (bs ++ [1]) (n + 1) c L i HLN.out HL.out h1 h2 (by omega) w3 hr3).mono ?_
 rintro e w4 ⟨D4, c4, rfl, hb4, hr4⟩
 go_wp2_with fail
 go_ret
 exact ⟨D4, c4, rfl, below_next hbw3 (Nat.le_refl _) hb4, by rw [HP.out]; simpa using hr4⟩
theorem rvput_text (A : Option Addr) (bs : List UInt8) (n cap L : Nat) (t : List UInt8) (hn : bs.length = n) (hL : n + (Wire.put 2 ++ Wire.text t).length = L) (hl : n + 200 <= 140737488355328) (ht : t.length <= 64) (w : World) (hr : Rd w A bs) :
  Calls Tryz.prog 118 #[.slice A n cap, .agg (vC 2 0 t.toArray)] w (LaysR w (bs ++ (Wire.put 2 ++ Wire.text t)) L) := by
 have HP := Lib.hid (Wire.put_lo 2 (by decide))
 have hL' : n + 1 + (Wire.text t).length = L := by rw [HP.out] at hL; simp at hL ⊢; omega
 have HL := Lib.hid hL'
 clear hL hL'
 obtain ⟨i0, hi0, hz0, hz1, hz2⟩ := info_parts byte_info
 have HN := Lib.hid hn
 clear hn
 obtain ⟨hB, hb0⟩ := box3 w 33 (.int .i64 2) (.int .i64 0) (.string ⟨t.toArray⟩)
 have hsz : (w.alloc (.cells (vC 2 0 t.toArray) 33)).heap.size = w.heap.size + 1 := by simp
 have hr2 := (hr.below hb0).below ((Below.refl _ _).alloc (Nat.le_refl _) (.cells #[] 5))
 have hO0 := Own.empty (w.alloc (.cells (vC 2 0 t.toArray) 33)) (w.heap.size + 1) 5 (Nat.le_of_eq hsz.symm)
 rw [hsz] at hO0
 have hbe : Below (w.heap.size + 1) (w.alloc (.cells (vC 2 0 t.toArray) 33)) ((w.alloc (.cells (vC 2 0 t.toArray) 33)).alloc (.cells #[] 5)) := (Below.refl _ _).alloc (Nat.le_of_eq hsz.symm) _
 go_enter Tryz.func118, Tryz.ntmps118
 go_wp2_with (at_builtin; refine wpList_append_rd rfl (.tmp 6) (.tmp 7) 24 rfl (w.heap.size + 1) 5 i0 Tryz.underlying24 hi0 hz0 hz1 hz2 _ [] (by rfl) hO0 A bs n cap (by rfl) hr2 HN.out (by simp; omega) (by simp) ?_; intro v1 w1 hO1 hb1' _ _; have hb1 := hb1' _ hbe; clear hb1'; have hB1 := hB.below hb1 (Nat.lt_succ_self _); obtain ⟨c0, c1, c2, _, _, _⟩ := blk3 hB1)
 rw [List.nil_append] at hO1
 have hbw : Below w.heap.size w w1 := hb0.trans (hb1.mono (Nat.le_succ _))
 have hs1 : w.heap.size + 1 <= w1.heap.size := by have := hb1.size; omega
 clear hO0 hr2 hbe hB hb0 hb1
 refine (refRight_is 2 (0) t w1 (by omega) true (by simp [Vals.right, ht])).mono ?_
 rintro e w2 ⟨rfl, hb2⟩
 replace hO1 := hO1.below hb2
 have hB2 := hB1.below hb2 hB1.lt
 replace hbw := below_next hbw (Nat.le_refl _) hb2
 have hs2 : w.heap.size + 1 <= w2.heap.size := Nat.le_trans hs1 hb2.size
 clear c0 c1 c2 hB1 hb2 hs1
 obtain ⟨c0, c1, c2, _, _, _⟩ := blk3 hB2
 have hO1' : ∀ o, Own (w2.alloc o) (w.heap.size + 1) 5 v1 bs := fun o => hO1.below ((Below.refl _ _).alloc (Nat.le_refl _) o)
 have hrx := rd_const w2 5 (0, 0) #[.int .u8 2] [2] rfl
 have hbe : Below (w.heap.size + 1) w2 (w2.alloc (.cells #[.int .u8 2] 5)) := (Below.refl _ _).alloc hs2 _
 have hHL : Hid (bs.length + 1 <= 140737488355328) := by show _ <= _; rw [HN.out]; omega
 go_wp2_with (at_builtin; refine wpList_append_rd rfl (.tmp 13) (.tmp 17) 24 rfl (w.heap.size + 1) 5 i0 Tryz.underlying24 hi0 hz0 hz1 hz2 _ bs (by rfl) (hO1' _) (some ⟨w2.heap.size, 0, none⟩) [2] 1 1 (by rfl) hrx rfl hHL.out (by simp; omega) ?_; intro v3 w3 hO3 hb3' _ _; have hb3 := hb3' _ hbe; clear hb3'; have hB3 := hB2.below hb3 (Nat.lt_succ_self _); clear c0 c1 c2; obtain ⟨c0, c1, c2, _, _, _⟩ := blk3 hB3)
 obtain ⟨D, c, hv, hc, hr3⟩ := hO3.rd
 have HLN : Hid ((bs ++ [2]).length = n + 1) := by show _ = _; rw [List.length_append, HN.out]; rfl
 rw [HLN.out] at hv
 subst hv
 have hbw3 : Below w.heap.size w w3 := hbw.trans (hb3.mono (Nat.le_succ _))
 clear hO1 hO1' hO3 hb3 hbe hrx hB2 hB3 hbw hc
 refine (refPutText_at D (bs ++ [2]) t (n + 1) c t.length L HLN.out rfl HL.out (by omega) w3 hr3).mono ?_
 rintro e w4 ⟨D4, c4, rfl, hb4, hr4⟩
 go_wp2_with fail
 go_ret
 exact ⟨D4, c4, rfl, below_next hbw3 (Nat.le_refl _) hb4, by rw [HP.out]; simpa using hr4⟩
theorem rvput_off (A : Option Addr) (bs : List UInt8) (n cap L : Nat)  (hn : bs.length = n) (hL : n + (Wire.put 3 ++ Wire.put 0).length = L) (hl : n + 200 <= 140737488355328)  (w : World) (hr : Rd w A bs) :
  Calls Tryz.prog 118 #[.slice A n cap, .agg (vC 3 0 #[])] w (LaysR w (bs ++ (Wire.put 3 ++ Wire.put 0)) L) := by
 have HP := Lib.hid (Wire.put_lo 3 (by decide))
 have hL' : n + 1 + (Wire.put 0).length = L := by rw [HP.out] at hL; simp at hL ⊢; omega
 have HL := Lib.hid hL'
 clear hL hL'
 obtain ⟨i0, hi0, hz0, hz1, hz2⟩ := info_parts byte_info
 have HN := Lib.hid hn
 clear hn
 obtain ⟨hB, hb0⟩ := box3 w 33 (.int .i64 3) (.int .i64 0) (.string ⟨#[]⟩)
 have hsz : (w.alloc (.cells (vC 3 0 #[]) 33)).heap.size = w.heap.size + 1 := by simp
 have hr2 := (hr.below hb0).below ((Below.refl _ _).alloc (Nat.le_refl _) (.cells #[] 5))
 have hO0 := Own.empty (w.alloc (.cells (vC 3 0 #[]) 33)) (w.heap.size + 1) 5 (Nat.le_of_eq hsz.symm)
 rw [hsz] at hO0
 have hbe : Below (w.heap.size + 1) (w.alloc (.cells (vC 3 0 #[]) 33)) ((w.alloc (.cells (vC 3 0 #[]) 33)).alloc (.cells #[] 5)) := (Below.refl _ _).alloc (Nat.le_of_eq hsz.symm) _
 go_enter Tryz.func118, Tryz.ntmps118
 go_wp2_with (at_builtin; refine wpList_append_rd rfl (.tmp 6) (.tmp 7) 24 rfl (w.heap.size + 1) 5 i0 Tryz.underlying24 hi0 hz0 hz1 hz2 _ [] (by rfl) hO0 A bs n cap (by rfl) hr2 HN.out (by simp; omega) (by simp) ?_; intro v1 w1 hO1 hb1' _ _; have hb1 := hb1' _ hbe; clear hb1'; have hB1 := hB.below hb1 (Nat.lt_succ_self _); obtain ⟨c0, c1, c2, _, _, _⟩ := blk3 hB1)
 rw [List.nil_append] at hO1
 have hbw : Below w.heap.size w w1 := hb0.trans (hb1.mono (Nat.le_succ _))
 have hs1 : w.heap.size + 1 <= w1.heap.size := by have := hb1.size; omega
 clear hO0 hr2 hbe hB hb0 hb1
 refine (refRight_is 3 (0) [] w1 (by simp) true rfl).mono ?_
 rintro e w2 ⟨rfl, hb2⟩
 replace hO1 := hO1.below hb2
 have hB2 := hB1.below hb2 hB1.lt
 replace hbw := below_next hbw (Nat.le_refl _) hb2
 have hs2 : w.heap.size + 1 <= w2.heap.size := Nat.le_trans hs1 hb2.size
 clear c0 c1 c2 hB1 hb2 hs1
 obtain ⟨c0, c1, c2, _, _, _⟩ := blk3 hB2
 have hO1' : ∀ o, Own (w2.alloc o) (w.heap.size + 1) 5 v1 bs := fun o => hO1.below ((Below.refl _ _).alloc (Nat.le_refl _) o)
 have hrx := rd_const w2 5 (0, 0) #[.int .u8 3] [3] rfl
 have hbe : Below (w.heap.size + 1) w2 (w2.alloc (.cells #[.int .u8 3] 5)) := (Below.refl _ _).alloc hs2 _
 have hHL : Hid (bs.length + 1 <= 140737488355328) := by show _ <= _; rw [HN.out]; omega
 go_wp2_with (first | (at_builtin; refine wpList_append_rd rfl (.tmp 13) (.tmp 17) 24 rfl (w.heap.size + 1) 5 i0 Tryz.underlying24 hi0 hz0 hz1 hz2 _ bs (by rfl) (hO1' _) (some ⟨w2.heap.size, 0, none⟩) [3] 1 1 (by rfl) hrx rfl hHL.out (by simp; omega) ?_; intro v3 w3 hO3 hb3' _ _; have hb3 := hb3' _ hbe; clear hb3'; have hB3 := hB2.below hb3 (Nat.lt_succ_self _); clear c0 c1 c2; obtain ⟨c0, c1, c2, _, _, _⟩ := blk3 hB3; have hO3' : ∀ o, Own (w3.alloc o) (w.heap.size + 1) 5 v3 (bs ++ [3]) := fun o => hO3.below ((Below.refl _ _).alloc (Nat.le_refl _) o); have hs3 : w.heap.size + 1 <= w3.heap.size := Nat.le_trans hs2 hb3.size; have hrx3 := rd_const w3 5 (0, 0) #[.int .u8 0] [0] rfl; have hHL3 : Hid ((bs ++ [3]).length + 1 <= 140737488355328) := (by show _ <= _; rw [List.length_append, HN.out]; simp; omega); have hbe3 : Below (w.heap.size + 1) w3 (w3.alloc (.cells #[.int .u8 0] 5)) := (Below.refl _ _).alloc hs3 _; have hbw3 : Below w.heap.size w w3 := hbw.trans (hb3.mono (Nat.le_succ _)); clear hO1 hO1' hbe hrx hB2 hbw) | (at_builtin; refine wpList_append_rd rfl (.tmp 33) (.tmp 37) 24 rfl (w.heap.size + 1) 5 i0 Tryz.underlying24 hi0 hz0 hz1 hz2 _ (bs ++ [3]) (by rfl) (hO3' _) (some ⟨w3.heap.size, 0, none⟩) [0] 1 1 (by rfl) hrx3 rfl hHL3.out (by simp; omega) ?_; intro v4 w4 hO4 hb4' _ _; have hb4 := hb4' _ hbe3; clear hb4'))
 obtain ⟨D, c, hv, hc, hr4⟩ := hO4.rd
 have HLL : Hid ((bs ++ [3] ++ [0]).length = L) := by
  show _ = _
  rw [<- HL.out, Wire.put_lo 0 (by decide), List.length_append, List.length_append, HN.out]; rfl
 rw [HLL.out] at hv
 subst hv
 go_ret
 exact ⟨D, c, rfl, hbw3.trans (hb4.mono (Nat.le_succ _)), by rw [HP.out, Wire.put_lo 0 (by decide)]; simpa using hr4⟩
theorem rvput_on (A : Option Addr) (bs : List UInt8) (n cap L : Nat)  (hn : bs.length = n) (hL : n + (Wire.put 3 ++ Wire.put 1).length = L) (hl : n + 200 <= 140737488355328)  (w : World) (hr : Rd w A bs) :
  Calls Tryz.prog 118 #[.slice A n cap, .agg (vC 3 1 #[])] w (LaysR w (bs ++ (Wire.put 3 ++ Wire.put 1)) L) := by
 have HP := Lib.hid (Wire.put_lo 3 (by decide))
 have hL' : n + 1 + (Wire.put 1).length = L := by rw [HP.out] at hL; simp at hL ⊢; omega
 have HL := Lib.hid hL'
 clear hL hL'
 obtain ⟨i0, hi0, hz0, hz1, hz2⟩ := info_parts byte_info
 have HN := Lib.hid hn
 clear hn
 obtain ⟨hB, hb0⟩ := box3 w 33 (.int .i64 3) (.int .i64 1) (.string ⟨#[]⟩)
 have hsz : (w.alloc (.cells (vC 3 1 #[]) 33)).heap.size = w.heap.size + 1 := by simp
 have hr2 := (hr.below hb0).below ((Below.refl _ _).alloc (Nat.le_refl _) (.cells #[] 5))
 have hO0 := Own.empty (w.alloc (.cells (vC 3 1 #[]) 33)) (w.heap.size + 1) 5 (Nat.le_of_eq hsz.symm)
 rw [hsz] at hO0
 have hbe : Below (w.heap.size + 1) (w.alloc (.cells (vC 3 1 #[]) 33)) ((w.alloc (.cells (vC 3 1 #[]) 33)).alloc (.cells #[] 5)) := (Below.refl _ _).alloc (Nat.le_of_eq hsz.symm) _
 go_enter Tryz.func118, Tryz.ntmps118
 go_wp2_with (at_builtin; refine wpList_append_rd rfl (.tmp 6) (.tmp 7) 24 rfl (w.heap.size + 1) 5 i0 Tryz.underlying24 hi0 hz0 hz1 hz2 _ [] (by rfl) hO0 A bs n cap (by rfl) hr2 HN.out (by simp; omega) (by simp) ?_; intro v1 w1 hO1 hb1' _ _; have hb1 := hb1' _ hbe; clear hb1'; have hB1 := hB.below hb1 (Nat.lt_succ_self _); obtain ⟨c0, c1, c2, _, _, _⟩ := blk3 hB1)
 rw [List.nil_append] at hO1
 have hbw : Below w.heap.size w w1 := hb0.trans (hb1.mono (Nat.le_succ _))
 have hs1 : w.heap.size + 1 <= w1.heap.size := by have := hb1.size; omega
 clear hO0 hr2 hbe hB hb0 hb1
 refine (refRight_is 3 (1) [] w1 (by simp) true rfl).mono ?_
 rintro e w2 ⟨rfl, hb2⟩
 replace hO1 := hO1.below hb2
 have hB2 := hB1.below hb2 hB1.lt
 replace hbw := below_next hbw (Nat.le_refl _) hb2
 have hs2 : w.heap.size + 1 <= w2.heap.size := Nat.le_trans hs1 hb2.size
 clear c0 c1 c2 hB1 hb2 hs1
 obtain ⟨c0, c1, c2, _, _, _⟩ := blk3 hB2
 have hO1' : ∀ o, Own (w2.alloc o) (w.heap.size + 1) 5 v1 bs := fun o => hO1.below ((Below.refl _ _).alloc (Nat.le_refl _) o)
 have hrx := rd_const w2 5 (0, 0) #[.int .u8 3] [3] rfl
 have hbe : Below (w.heap.size + 1) w2 (w2.alloc (.cells #[.int .u8 3] 5)) := (Below.refl _ _).alloc hs2 _
 have hHL : Hid (bs.length + 1 <= 140737488355328) := by show _ <= _; rw [HN.out]; omega
 go_wp2_with (first | (at_builtin; refine wpList_append_rd rfl (.tmp 13) (.tmp 17) 24 rfl (w.heap.size + 1) 5 i0 Tryz.underlying24 hi0 hz0 hz1 hz2 _ bs (by rfl) (hO1' _) (some ⟨w2.heap.size, 0, none⟩) [3] 1 1 (by rfl) hrx rfl hHL.out (by simp; omega) ?_; intro v3 w3 hO3 hb3' _ _; have hb3 := hb3' _ hbe; clear hb3'; have hB3 := hB2.below hb3 (Nat.lt_succ_self _); clear c0 c1 c2; obtain ⟨c0, c1, c2, _, _, _⟩ := blk3 hB3; have hO3' : ∀ o, Own (w3.alloc o) (w.heap.size + 1) 5 v3 (bs ++ [3]) := fun o => hO3.below ((Below.refl _ _).alloc (Nat.le_refl _) o); have hs3 : w.heap.size + 1 <= w3.heap.size := Nat.le_trans hs2 hb3.size; have hrx3 := rd_const w3 5 (0, 0) #[.int .u8 1] [1] rfl; have hHL3 : Hid ((bs ++ [3]).length + 1 <= 140737488355328) := (by show _ <= _; rw [List.length_append, HN.out]; simp; omega); have hbe3 : Below (w.heap.size + 1) w3 (w3.alloc (.cells #[.int .u8 1] 5)) := (Below.refl _ _).alloc hs3 _; have hbw3 : Below w.heap.size w w3 := hbw.trans (hb3.mono (Nat.le_succ _)); clear hO1 hO1' hbe hrx hB2 hbw) | (at_builtin; refine wpList_append_rd rfl (.tmp 33) (.tmp 37) 24 rfl (w.heap.size + 1) 5 i0 Tryz.underlying24 hi0 hz0 hz1 hz2 _ (bs ++ [3]) (by rfl) (hO3' _) (some ⟨w3.heap.size, 0, none⟩) [1] 1 1 (by rfl) hrx3 rfl hHL3.out (by simp; omega) ?_; intro v4 w4 hO4 hb4' _ _; have hb4 := hb4' _ hbe3; clear hb4'))
 obtain ⟨D, c, hv, hc, hr4⟩ := hO4.rd
 have HLL : Hid ((bs ++ [3] ++ [1]).length = L) := by
  show _ = _
  rw [<- HL.out, Wire.put_lo 1 (by decide), List.length_append, List.length_append, HN.out]; rfl
 rw [HLL.out] at hv
 subst hv
 go_ret
 exact ⟨D, c, rfl, hbw3.trans (hb4.mono (Nat.le_succ _)), by rw [HP.out, Wire.put_lo 1 (by decide)]; simpa using hr4⟩
theorem rvput_at (A : Option Addr) (bs : List UInt8) (n cap L : Nat) (k i : Int) (t : List UInt8) (hn : bs.length = n) (hL : n + (Vals.lay k i t).length = L) (hl : n + 200 <= 140737488355328) (h1 : -9223372036854775808 <= i) (h2 : i <= 9223372036854775807) (ht : t.length <= 9223372036854775807) (w : World) (hr : Rd w A bs) :
  Calls Tryz.prog 118 #[.slice A n cap, .agg (vC k i t.toArray)] w (LaysR w (bs ++ Vals.lay k i t) L) := by
 cases h : Vals.right k i t with
 | false =>
  have e : Vals.lay k i t = [] := by unfold Vals.lay; rw [h]; rfl
  rw [e] at hL ⊢
  rw [List.append_nil]
  simp only [List.length_nil, Nat.add_zero] at hL
  subst hL
  exact rvput_wrong A bs n cap k i t hn hl ht w hr h
 | true =>
  have e : Vals.lay k i t = Vals.bytes k i t := by unfold Vals.lay; rw [if_pos h]
  rw [e] at hL ⊢
  unfold Vals.bytes at hL ⊢
  rcases Vals.right_cases h with ⟨rfl, rfl⟩ | ⟨rfl, rfl, ht'⟩ | ⟨rfl, rfl, rfl | rfl⟩
  ·rw [if_pos rfl] at hL ⊢
   exact rvput_int A bs n cap L i hn hL hl h1 h2 w hr
  ·rw [if_neg (by decide), if_pos rfl] at hL ⊢
   exact rvput_text A bs n cap L t hn hL hl ht' w hr
  ·rw [if_neg (by decide), if_neg (by decide)] at hL ⊢
   exact rvput_off A bs n cap L hn hL hl w hr
  ·rw [if_neg (by decide), if_neg (by decide)] at hL ⊢
   exact rvput_on A bs n cap L hn hL hl w hr
end Go.Proofs.YtaglnncihmohfaaGreat
namespace Go.Proofs.YtaglnncihmohfaaGreat
open Go.RowKit
theorem rpput_wrong (A : Option Addr) (bs : List UInt8) (n cap : Nat) (nm : List UInt8) (o k i : Int) (t : List UInt8) (hn : bs.length = n) (hl : n + 400 <= 140737488355328) (hnm : nm.length <= 9223372036854775807) (ht : t.length <= 9223372036854775807) (w : World) (hr : Rd w A bs) (hw : Preds.right nm o k i t = false) :
  Calls Tryz.prog 70 #[.slice A n cap, .agg (pC nm.toArray o k i t.toArray)] w (LaysR w bs n) := by
 have HW := Lib.hid hw
 clear hw
 obtain ⟨i0, hi0, hz0, hz1, hz2⟩ := info_parts byte_info
 have HN := Lib.hid hn
 clear hn
 obtain ⟨hP, hb0⟩ := box5 w 35 (.string ⟨nm.toArray⟩) (.int .i64 o) (.int .i64 k) (.int .i64 i) (.string ⟨t.toArray⟩)
 have hsz : (w.alloc (.cells (pC nm.toArray o k i t.toArray) 35)).heap.size = w.heap.size + 1 := by simp
 have hr2 := (hr.below hb0).below ((Below.refl _ _).alloc (Nat.le_refl _) (.cells #[] 5))
 have hO0 := Own.empty (w.alloc (.cells (pC nm.toArray o k i t.toArray) 35)) (w.heap.size + 1) 5 (Nat.le_of_eq hsz.symm)
 rw [hsz] at hO0
 have hbe : Below (w.heap.size + 1) (w.alloc (.cells (pC nm.toArray o k i t.toArray) 35)) ((w.alloc (.cells (pC nm.toArray o k i t.toArray) 35)).alloc (.cells #[] 5)) := (Below.refl _ _).alloc (Nat.le_of_eq hsz.symm) _
 go_enter Tryz.func70, Tryz.ntmps70
 go_wp2_with (at_builtin; refine wpList_append_rd rfl (.tmp 6) (.tmp 7) 24 rfl (w.heap.size + 1) 5 i0 Tryz.underlying24 hi0 hz0 hz1 hz2 _ [] (by rfl) hO0 A bs n cap (by rfl) hr2 HN.out (by simp; omega) (by simp) ?_; intro v1 w1 hO1 hb1' _ _; have hb1 := hb1' _ hbe; clear hb1'; have hP1 := hP.below hb1 (Nat.lt_succ_self _); obtain ⟨c0, c1, c2, c3, c4, _, _, _, _, _⟩ := blk5 hP1)
 rw [List.nil_append] at hO1
 have hbw : Below w.heap.size w w1 := hb0.trans (hb1.mono (Nat.le_succ _))
 have hs1 : w.heap.size + 1 <= w1.heap.size := by have := hb1.size; omega
 clear hO0 hr2 hbe hP hb0 hb1
 refine (rpright_is nm o k i t w1 hnm ht false HW.out).mono ?_
 rintro e w2 ⟨rfl, hb2⟩
 replace hO1 := hO1.below hb2
 obtain ⟨D, c, hv, hc, hr2⟩ := hO1.rd
 rw [HN.out] at hv
 subst hv
 clear c0 c1 c2 c3 c4
 go_wp2_with fail
 go_ret
 exact ⟨D, c, rfl, below_next hbw (Nat.le_refl _) hb2, hr2⟩
section
variable {P : Program} {md : Region.Mode} {ops : Array Oper} {Q : Exit -> Act -> World -> Prop} {S : World -> Prop}
theorem wpAnyH_two {i j : Nat} {oi oj : Oper} {fuel : Nat} {listed : Array Bool} {a : Act} {w : World} (hr : Region.ready md ops listed = [i, j]) (hi : ops.toList[i]? = some oi) (hj : ops.toList[j]? = some oj)
  (hw : Region.wanted oi (yielded ops a.tmps) = true) (hw' : Region.wanted oj (yielded ops a.tmps) = true)
  (h : ∀ K : Act -> World -> Prop, Hid (∀ a w, S w -> wpAnyH P md ops Q S fuel (listed.setIfInBounds i true) a w -> K a w) -> Oper.wp P oi a w K Q)
  (h' : ∀ K : Act -> World -> Prop, Hid (∀ a w, S w -> wpAnyH P md ops Q S fuel (listed.setIfInBounds j true) a w -> K a w) -> Oper.wp P oj a w K Q) : wpAnyH P md ops Q S (fuel + 1) listed a w := by
 refine wpAnyH_ready hr (by simp) (AllReadyH.cons (by simpa using hi) (fun K hK => ?_) (AllReadyH.cons (by simpa using hj) (fun K hK => ?_) AllReadyH.nil))
 ·rw [if_pos hw]
  exact h K (fun a w hS hW => hK.out a w hS (fun _ => hW))
 ·rw [if_pos hw']
  exact h' K (fun a w hS hW => hK.out a w hS (fun _ => hW))
end
theorem rpput_so (A : Option Addr) (bs : List UInt8) (n cap L1 L : Nat) (nm : List UInt8) (q : Nat) (k i : Int) (t : List UInt8) (hn : bs.length = n) (hL1 : n + (Wire.text nm).length + 1 = L1) (hq : q <= 8) (hL : L1 + (Vals.lay k i t).length = L) (hl : n + 400 <= 140737488355328) (hnl : nm.length <= 16) (h1 : -9223372036854775808 <= i) (h2 : i <= 9223372036854775807)
  (hnm : nm.length <= 9223372036854775807) (ht : t.length <= 9223372036854775807) (w : World) (hr : Rd w A bs) (hw : Preds.right nm (q : Int) k i t = true) :
  Calls Tryz.prog 70 #[.slice A n cap, .agg (pC nm.toArray (q : Int) k i t.toArray)] w (LaysR w (bs ++ (Wire.text nm ++ (Wire.put q ++ Vals.lay k i t))) L) := by
 have HW := Lib.hid hw
 have HL := Lib.hid hL
 have hl1 : L1 + 200 <= 140737488355328 := by
  have := Wire.put_len_le nm.length (by omega)
  have e : (Wire.text nm).length = (Wire.put nm.length).length + nm.length := by simp [Wire.text]
  omega
 have HL1 := Lib.hid hL1
 have HP := Lib.hid (Wire.put_lo q (by omega))
 have hqi : (q : Int) <= 255 := by omega
 have HB : Hid ((q : Int) = (((UInt8.ofNat q).toNat : Nat) : Int)) := byte_of q (by omega)
 have HX : Hid ((bs ++ Wire.text nm).length + 1 <= 140737488355328) := by show _ <= _; rw [List.length_append, hn]; omega
 have HY : Hid ((bs ++ Wire.text nm ++ Wire.put q).length = L1) := by show _ = _; rw [HP.out, List.length_append, List.length_append, hn]; simpa using hL1
 clear hw hL hL1 hq
 obtain ⟨i0, hi0, hz0, hz1, hz2⟩ := info_parts byte_info
 have HN := Lib.hid hn
 clear hn
 obtain ⟨hP, hb0⟩ := box5 w 35 (.string ⟨nm.toArray⟩) (.int .i64 (q : Int)) (.int .i64 k) (.int .i64 i) (.string ⟨t.toArray⟩)
 have hsz : (w.alloc (.cells (pC nm.toArray (q : Int) k i t.toArray) 35)).heap.size = w.heap.size + 1 := by simp
 have hr2 := (hr.below hb0).below ((Below.refl _ _).alloc (Nat.le_refl _) (.cells #[] 5))
 have hO0 := Own.empty (w.alloc (.cells (pC nm.toArray (q : Int) k i t.toArray) 35)) (w.heap.size + 1) 5 (Nat.le_of_eq hsz.symm)
 rw [hsz] at hO0
 have hbe : Below (w.heap.size + 1) (w.alloc (.cells (pC nm.toArray (q : Int) k i t.toArray) 35)) ((w.alloc (.cells (pC nm.toArray (q : Int) k i t.toArray) 35)).alloc (.cells #[] 5)) := (Below.refl _ _).alloc (Nat.le_of_eq hsz.symm) _
 go_enter Tryz.func70, Tryz.ntmps70
 go_wp2_with (at_builtin; refine wpList_append_rd rfl (.tmp 6) (.tmp 7) 24 rfl (w.heap.size + 1) 5 i0 Tryz.underlying24 hi0 hz0 hz1 hz2 _ [] (by rfl) hO0 A bs n cap (by rfl) hr2 HN.out (by simp; omega) (by simp) ?_; intro v1 w1 hO1 hb1' _ _; have hb1 := hb1' _ hbe; clear hb1'; have hP1 := hP.below hb1 (Nat.lt_succ_self _); obtain ⟨c0, c1, c2, c3, c4, _, _, _, _, _⟩ := blk5 hP1)
 rw [List.nil_append] at hO1
 have hbw : Below w.heap.size w w1 := hb0.trans (hb1.mono (Nat.le_succ _))
 have hs1 : w.heap.size + 1 <= w1.heap.size := by have := hb1.size; omega
 clear hO0 hr2 hbe hP hb0 hb1
 refine (rpright_is nm (q : Int) k i t w1 hnm ht true HW.out).mono ?_
 rintro e w2 ⟨rfl, hb2⟩
 replace hO1 := hO1.below hb2
 obtain ⟨D, c, hv, hc, hr2⟩ := hO1.rd
 rw [HN.out] at hv
 subst hv
 clear c0 c1 c2 c3 c4
 have hP2 := hP1.below hb2 hP1.lt
 have hb2w := below_next hbw (Nat.le_refl _) hb2
 clear hP1 hbw hs1 hb2 hO1 hr
 go_wp2_with fail
 have hkeep : Hid (∀ w', Below w2.heap.size w2 w' -> Below w2.heap.size w2 w' /\ w'.cell? ⟨w.heap.size, 0, none⟩ = some (.string ⟨nm.toArray⟩) /\ w'.cell? ⟨w.heap.size, 1, none⟩ = some (.int .i64 (q : Int)) /\ w'.cell? ⟨w.heap.size, 2, none⟩ = some (.int .i64 k) /\ w'.cell? ⟨w.heap.size, 3, none⟩ = some (.int .i64 i) /\ w'.cell? ⟨w.heap.size, 4, none⟩ = some (.string ⟨t.toArray⟩)) := fun w' h => ⟨h, (hP2.below h hP2.lt).cell 0, (hP2.below h hP2.lt).cell 1, (hP2.below h hP2.lt).cell 2, (hP2.below h hP2.lt).cell 3, (hP2.below h hP2.lt).cell 4⟩
 have hS0 := hkeep.out w2.drew (Below.refl _ _).drew
 refine wp_region_held_drew (S := fun w' => Below w2.heap.size w2 w' /\ w'.cell? ⟨w.heap.size, 0, none⟩ = some (.string ⟨nm.toArray⟩) /\ w'.cell? ⟨w.heap.size, 1, none⟩ = some (.int .i64 (q : Int)) /\ w'.cell? ⟨w.heap.size, 2, none⟩ = some (.int .i64 k) /\ w'.cell? ⟨w.heap.size, 3, none⟩ = some (.int .i64 i) /\ w'.cell? ⟨w.heap.size, 4, none⟩ = some (.string ⟨t.toArray⟩)) (by kernel_rfl) hS0 (fun _ => ?_)
 refine wq 0 13 (v := ?_) rfl rfl (by kernel_rfl) (fun _ _ _ h => h) (by rfl) ?_ hS0 ?_
 rotate_left
 ·intro w' hSw; go_simp <;> with_reducible rfl
 simp only [Act.put, zu0, zu1, zu2]
 refine wq 1 14 (v := ?_) rfl rfl (by kernel_rfl) (fun _ _ _ h => h) (by rfl) ?_ hS0 ?_
 rotate_left
 ·intro w' hSw; go_simp <;> with_reducible rfl
 simp only [Act.put, zu0, zu1, zu2]
 refine wq 2 15 (v := ?_) rfl rfl (by kernel_rfl) (fun _ _ _ h => h) (by rfl) ?_ hS0 ?_
 rotate_left
 ·intro w' hSw; go_simp <;> with_reducible rfl
 simp only [Act.put, zu0, zu1, zu2]
 refine wq 4 17 (v := ?_) rfl rfl (by kernel_rfl) (fun _ _ _ h => h) (by rfl) ?_ hS0 ?_
 rotate_left
 ·intro w' hSw; go_simp <;> with_reducible rfl
 simp only [Act.put, zu0, zu1, zu2]
 refine wq 5 18 (v := ?_) rfl rfl (by kernel_rfl) (fun _ _ _ h => h) (by rfl) ?_ hS0 ?_
 rotate_left
 ·intro w' hSw; go_simp <;> with_reducible rfl
 simp only [Act.put, zu0, zu1, zu2]
 refine wpAnyH_yes (i := 6) (d := 19) (v := .int .u8 (q : Int)) rfl rfl (by kernel_rfl) (by kernel_rfl) (by kernel_rfl) (fun _ _ _ h => h) (by rfl) ?_ hS0 ?_
 ·intro w' hSw
  go_simp
  all_goals first | rfl | (rw [IntKind.wrap_u8]; omega)
 simp only [Act.put, zu0, zu1, zu2]
 refine wpAnyH_two (i := 3) (j := 7) (by kernel_rfl) rfl rfl (by rfl) (by rfl) (fun Ka hKa => ?_) (fun Kb hKb => ?_)
 ·go_simp
  with_reducible refine (refPutText_own D bs nm n c nm.length HN.out rfl (by omega) _ (hr2.below hS0.1)).mono ?_
  rintro e w3 ⟨v3, rfl, hO3, hb3⟩
  have hS1 := hkeep.out _ (below_next hS0.1 (Nat.le_refl _) hb3)
  go_wp2_with fail
  refine hKa.out _ _ hS1 ?_
  refine wpAnyH_one (i := 7) (by kernel_rfl) rfl (by rfl) (fun K hKc => ?_)
  go_simp
  have hb4 : Below w3.heap.size w3 (w3.alloc (.cells #[.int .u8 (q : Int)] 5)) := (Below.refl _ _).alloc (Nat.le_refl _) _
  have hrx := rd_const w3 5 (0, 0) #[.int .u8 (q : Int)] [UInt8.ofNat q] (by rw [HB.out]; rfl)
  have hO4 := hO3.below hb4
  have hS2 := hkeep.out _ (below_next hS1.1 (Nat.le_refl _) hb4)
  have hbs : w2.heap.size <= (w3.alloc (.cells #[.int .u8 (q : Int)] 5)).heap.size := hS2.1.size
  refine hKc.out _ _ hS2 ?_
  refine wpAnyH_one (i := 8) (by kernel_rfl) rfl (by rfl) (fun K hKd => ?_)
  refine op_append_rd (.tmp 16) (.tmp 20) 24 rfl w2.heap.size 5 i0 Tryz.underlying24 hi0 hz0 hz1 hz2 v3 (bs ++ Wire.text nm) (by rfl) hO4 (some ⟨w3.heap.size, 0, none⟩) [UInt8.ofNat q] 1 1 (by rfl) hrx rfl HX.out hbs ?_
  intro v6 w6 hO6 hb6'
  have hb6 := hb6' w2 hS2.1
  rw [<- HP.out] at hO6
  have hS3 := hkeep.out w6 hb6
  obtain ⟨D6, c6, hv6, hc6, hr6⟩ := hO6.rd
  rw [HY.out] at hv6
  subst hv6
  refine hKd.out _ _ hS3 ?_
  simp only [Act.put, zu0, zu1, zu2]
  refine wq 9 5 (v := ?_) rfl rfl (by kernel_rfl) (fun _ _ _ h => h) (by rfl) ?_ hS3 ?_
  rotate_left
  ·intro w' hSw; go_simp <;> with_reducible rfl
  simp only [Act.put, zu0, zu1, zu2]
  refine wpAnyH_done (by kernel_rfl) ?_ _
  have hbl := below_next hb2w (Nat.le_refl _) hS3.1
  obtain ⟨_, c0, c1, c2, c3, c4⟩ := hS3
  go_wp2_with fail
  refine (rvput_at D6 (bs ++ Wire.text nm ++ Wire.put q) L1 c6 L k i t HY.out HL.out hl1 h1 h2 ht w6 hr6).mono ?_
  rintro e w7 ⟨D7, c7, rfl, hb7, hr7⟩
  rw [List.append_assoc, List.append_assoc] at hr7
  clear c0 c1 c2 c3 c4
  go_wp2_with fail
  go_ret
  exact ⟨D7, c7, rfl, below_next hbl (Nat.le_refl _) hb7, hr7⟩
 ·go_simp
  have hbn : Below w2.heap.size w2 (w2.alloc (.cells #[.int .u8 (q : Int)] 5)).drew := ((Below.refl _ _).alloc (Nat.le_refl _) _).drew
  have hrx : Rd (w2.alloc (.cells #[.int .u8 (q : Int)] 5)).drew (some ⟨w2.heap.size, 0, none⟩) [UInt8.ofNat q] := rd_const w2 5 (0, 0) #[.int .u8 (q : Int)] [UInt8.ofNat q] (by rw [HB.out]; rfl)
  have hwl : w2.heap.size <= (w2.alloc (.cells #[.int .u8 (q : Int)] 5)).drew.heap.size := hbn.size
  generalize (w2.alloc (.cells #[.int .u8 (q : Int)] 5)).drew = w3 at *
  have hS1 := hkeep.out w3 hbn
  refine hKb.out _ _ hS1 ?_
  refine wpAnyH_one (i := 3) (by kernel_rfl) rfl (by rfl) (fun K hKc => ?_)
  go_simp
  with_reducible refine (refPutText_own D bs nm n c nm.length HN.out rfl (by omega) _ (hr2.below hS1.1)).mono ?_
  rintro e w4 ⟨v3, rfl, hO3, hb3⟩
  have hS2 := hkeep.out _ (below_next hS1.1 (Nat.le_refl _) hb3)
  go_wp2_with fail
  refine hKc.out _ _ hS2 ?_
  refine wpAnyH_one (i := 8) (by kernel_rfl) rfl (by rfl) (fun K hKd => ?_)
  refine op_append_rd (.tmp 16) (.tmp 20) 24 rfl w3.heap.size 5 i0 Tryz.underlying24 hi0 hz0 hz1 hz2 v3 (bs ++ Wire.text nm) (by rfl) hO3 (some ⟨w2.heap.size, 0, none⟩) [UInt8.ofNat q] 1 1 (by rfl) (hrx.below hb3) rfl HX.out hb3.size ?_
  intro v6 w6 hO6 hb6'
  have hb6 := below_next hS1.1 (Nat.le_refl _) (hb6' w3 hb3)
  rw [<- HP.out] at hO6
  have hS3 := hkeep.out w6 hb6
  obtain ⟨D6, c6, hv6, hc6, hr6⟩ := hO6.rd
  rw [HY.out] at hv6
  subst hv6
  refine hKd.out _ _ hS3 ?_
  simp only [Act.put, zu0, zu1, zu2]
  refine wq 9 5 (v := ?_) rfl rfl (by kernel_rfl) (fun _ _ _ h => h) (by rfl) ?_ hS3 ?_
  rotate_left
  ·intro w' hSw; go_simp <;> with_reducible rfl
  simp only [Act.put, zu0, zu1, zu2]
  refine wpAnyH_done (by kernel_rfl) ?_ _
  have hbl := below_next hb2w (Nat.le_refl _) hS3.1
  obtain ⟨_, c0, c1, c2, c3, c4⟩ := hS3
  go_wp2_with fail
  refine (rvput_at D6 (bs ++ Wire.text nm ++ Wire.put q) L1 c6 L k i t HY.out HL.out hl1 h1 h2 ht w6 hr6).mono ?_
  rintro e w7 ⟨D7, c7, rfl, hb7, hr7⟩
  rw [List.append_assoc, List.append_assoc] at hr7
  clear c0 c1 c2 c3 c4
  go_wp2_with fail
  go_ret
  exact ⟨D7, c7, rfl, below_next hbl (Nat.le_refl _) hb7, hr7⟩
theorem lay_zero : Vals.lay 0 0 [] = [] := rfl
theorem rpput_at (A : Option Addr) (bs : List UInt8) (n cap L : Nat) (nm : List UInt8) (o k i : Int) (t : List UInt8) (hn : bs.length = n) (hL : n + (Preds.lay nm o k i t).length = L) (hl : n + 400 <= 140737488355328) (h1 : -9223372036854775808 <= i) (h2 : i <= 9223372036854775807) (hnm : nm.length <= 9223372036854775807) (ht : t.length <= 9223372036854775807) (w : World) (hr : Rd w A bs) :
  Calls Tryz.prog 70 #[.slice A n cap, .agg (pC nm.toArray o k i t.toArray)] w (LaysR w (bs ++ Preds.lay nm o k i t) L) := by
 cases h : Preds.right nm o k i t with
 | false =>
  have e : Preds.lay nm o k i t = [] := by unfold Preds.lay; rw [h]; rfl
  rw [e] at hL ⊢
  rw [List.append_nil]
  simp only [List.length_nil, Nat.add_zero] at hL
  subst hL
  exact rpput_wrong A bs n cap nm o k i t hn hl hnm ht w hr h
 | true =>
  obtain ⟨a1, a2, ha⟩ := Preds.right_parts h
  have ho : 0 <= o /\ o <= 8 := by rcases Preds.asks_cases ha with ⟨rfl, _⟩ | ⟨_, b1, b2, _⟩ <;> omega
  obtain ⟨q, rfl⟩ := Int.eq_ofNat_of_zero_le ho.1
  have e : Preds.lay nm (q : Int) k i t = Wire.text nm ++ (Wire.put q ++ Vals.lay k i t) := by
   unfold Preds.lay
   rw [if_pos h]
   unfold Preds.bytes
   rw [Int.toNat_natCast]
   rcases Preds.asks_cases ha with ⟨h8, rfl, rfl, rfl⟩ | ⟨h8, _⟩
   ·rw [if_pos h8, lay_zero]
   ·rw [if_neg h8]
  rw [e] at hL ⊢
  have hp : (Wire.put q).length = 1 := by rw [Wire.put_lo q (by omega)]; rfl
  refine rpput_so A bs n cap (n + (Wire.text nm).length + 1) L nm q k i t hn rfl (by omega) ?_ hl a2 h1 h2 hnm ht w hr h
  rw [<- hL]; simp only [List.length_append]; omega
end Go.Proofs.YtaglnncihmohfaaGreat
