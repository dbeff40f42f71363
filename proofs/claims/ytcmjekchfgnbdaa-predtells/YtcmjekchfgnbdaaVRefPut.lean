/- The document's own answer for layer 4: Put. -/
import Derived.Test.YtcmjekchfgnbdaaVPut
import Derived.Test.YtcmjekchfgnbdaaWRef
namespace Go.Proofs.Ytcmjekchfgnbdaa
open Go.RowKit
theorem refRight_is (k i : Int) (t : List UInt8) (w : World) (hl : t.length ≤ 9223372036854775807) (b : Bool) (hb : Vals.right k i t = b) :
    Calls Try.prog 26 #[.agg #[.int .i64 k, .int .i64 i, .string ⟨t.toArray⟩]] w fun e w' => e = .returned (.bool b) ∧ Below w.heap.size w w' := by
  subst hb; exact refRight_at k i t w hl
/-- New bytes, told as a slice of whatever room. -/
def LaysR (w : World) (bs : List UInt8) (L : Nat) (e : Ending) (w' : World) : Prop := ∃ D c, e = .returned (.slice D L c) ∧ Below w.heap.size w w' ∧ Rd w' D bs
set_option maxRecDepth 100000 in
theorem rvput_wrong (A : Option Addr) (bs : List UInt8) (n cap : Nat) (k i : Int) (t : List UInt8) (hn : bs.length = n) (hl : n + 200 ≤ 140737488355328) (ht : t.length ≤ 9223372036854775807) (w : World) (hr : Rd w A bs) (hw : Vals.right k i t = false) :
    Calls Try.prog 37 #[.slice A n cap, .agg #[.int .i64 k, .int .i64 i, .string ⟨t.toArray⟩]] w (LaysR w bs n) := by
  have HW := Lib.hid hw
  clear hw
  obtain ⟨i0, hi0, hz0, hz1, hz2⟩ := info_parts byte_info
  have HN := Lib.hid hn
  clear hn
  obtain ⟨hB, hb0⟩ := box3 w 23 (.int .i64 k) (.int .i64 i) (.string ⟨t.toArray⟩)
  have hsz : (w.alloc (.cells #[.int .i64 k, .int .i64 i, .string ⟨t.toArray⟩] 23)).heap.size = w.heap.size + 1 := by simp
  have hr2 := (hr.below hb0).below ((Below.refl _ _).alloc (Nat.le_refl _) (.cells #[] 5))
  have hO0 := Own.empty (w.alloc (.cells #[.int .i64 k, .int .i64 i, .string ⟨t.toArray⟩] 23)) (w.heap.size + 1) 5 (Nat.le_of_eq hsz.symm)
  rw [hsz] at hO0
  have hbe : Below (w.heap.size + 1) (w.alloc (.cells #[.int .i64 k, .int .i64 i, .string ⟨t.toArray⟩] 23)) ((w.alloc (.cells #[.int .i64 k, .int .i64 i, .string ⟨t.toArray⟩] 23)).alloc (.cells #[] 5)) := (Below.refl _ _).alloc (Nat.le_of_eq hsz.symm) _
  go_enter Try.func37, Try.ntmps37
  go_wp2_with (at_builtin; refine wpList_append_rd rfl (.tmp 6) (.tmp 7) 27 rfl (w.heap.size + 1) 5 i0 Try.underlying27 hi0 hz0 hz1 hz2 _ [] (by rfl) hO0 A bs n cap (by rfl) hr2 HN.out (by simp; omega) (by simp) ?_; intro v1 w1 hO1 hb1' _ _; have hb1 := hb1' _ hbe; clear hb1'; have hB1 := hB.below hb1 (Nat.lt_succ_self _); obtain ⟨c0, c1, c2, _, _, _⟩ := blk3 hB1)
  rw [List.nil_append] at hO1
  have hbw : Below w.heap.size w w1 := hb0.trans (hb1.mono (Nat.le_succ _))
  have hs1 : w.heap.size + 1 ≤ w1.heap.size := by have := hb1.size; omega
  clear hO0 hr2 hbe hB hb0 hb1
  refine (refRight_is k i t w1 ht false HW.out).mono ?_
  rintro e w2 ⟨rfl, hb2⟩
  replace hO1 := hO1.below hb2
  obtain ⟨D, c, hv, hc, hr2⟩ := hO1.rd
  rw [HN.out] at hv
  subst hv
  clear c0 c1 c2
  go_wp2_with fail
  go_ret
  exact ⟨D, c, rfl, below_next hbw (Nat.le_refl _) hb2, hr2⟩
set_option maxRecDepth 100000 in
theorem rvput_int (A : Option Addr) (bs : List UInt8) (n cap L : Nat) (i : Int) (hn : bs.length = n) (hL : n + (Wire.put 1 ++ Wire.put (Wire.zig i)).length = L) (hl : n + 200 ≤ 140737488355328) (h1 : -9223372036854775808 ≤ i) (h2 : i ≤ 9223372036854775807) (w : World) (hr : Rd w A bs) :
    Calls Try.prog 37 #[.slice A n cap, .agg #[.int .i64 1, .int .i64 i, .string ⟨#[]⟩]] w (LaysR w (bs ++ (Wire.put 1 ++ Wire.put (Wire.zig i))) L) := by
  have HP := Lib.hid (Wire.put_lo 1 (by decide))
  have hL' : n + 1 + (Wire.put (Wire.zig i)).length = L := by rw [HP.out] at hL; simp at hL ⊢; omega
  have HL := Lib.hid hL'
  clear hL hL'
  obtain ⟨i0, hi0, hz0, hz1, hz2⟩ := info_parts byte_info
  have HN := Lib.hid hn
  clear hn
  obtain ⟨hB, hb0⟩ := box3 w 23 (.int .i64 1) (.int .i64 i) (.string ⟨#[]⟩)
  have hsz : (w.alloc (.cells #[.int .i64 1, .int .i64 i, .string ⟨#[]⟩] 23)).heap.size = w.heap.size + 1 := by simp
  have hr2 := (hr.below hb0).below ((Below.refl _ _).alloc (Nat.le_refl _) (.cells #[] 5))
  have hO0 := Own.empty (w.alloc (.cells #[.int .i64 1, .int .i64 i, .string ⟨#[]⟩] 23)) (w.heap.size + 1) 5 (Nat.le_of_eq hsz.symm)
  rw [hsz] at hO0
  have hbe : Below (w.heap.size + 1) (w.alloc (.cells #[.int .i64 1, .int .i64 i, .string ⟨#[]⟩] 23)) ((w.alloc (.cells #[.int .i64 1, .int .i64 i, .string ⟨#[]⟩] 23)).alloc (.cells #[] 5)) := (Below.refl _ _).alloc (Nat.le_of_eq hsz.symm) _
  go_enter Try.func37, Try.ntmps37
  go_wp2_with (at_builtin; refine wpList_append_rd rfl (.tmp 6) (.tmp 7) 27 rfl (w.heap.size + 1) 5 i0 Try.underlying27 hi0 hz0 hz1 hz2 _ [] (by rfl) hO0 A bs n cap (by rfl) hr2 HN.out (by simp; omega) (by simp) ?_; intro v1 w1 hO1 hb1' _ _; have hb1 := hb1' _ hbe; clear hb1'; have hB1 := hB.below hb1 (Nat.lt_succ_self _); obtain ⟨c0, c1, c2, _, _, _⟩ := blk3 hB1)
  rw [List.nil_append] at hO1
  have hbw : Below w.heap.size w w1 := hb0.trans (hb1.mono (Nat.le_succ _))
  have hs1 : w.heap.size + 1 ≤ w1.heap.size := by have := hb1.size; omega
  clear hO0 hr2 hbe hB hb0 hb1
  refine (refRight_is 1 (i) [] w1 (by simp) true rfl).mono ?_
  rintro e w2 ⟨rfl, hb2⟩
  replace hO1 := hO1.below hb2
  have hB2 := hB1.below hb2 hB1.lt
  replace hbw := below_next hbw (Nat.le_refl _) hb2
  have hs2 : w.heap.size + 1 ≤ w2.heap.size := Nat.le_trans hs1 hb2.size
  clear c0 c1 c2 hB1 hb2 hs1
  obtain ⟨c0, c1, c2, _, _, _⟩ := blk3 hB2
  have hO1' : ∀ o, Own (w2.alloc o) (w.heap.size + 1) 5 v1 bs := fun o => hO1.below ((Below.refl _ _).alloc (Nat.le_refl _) o)
  have hrx := rd_const w2 5 (0, 0) #[.int .u8 1] [1] rfl
  have hbe : Below (w.heap.size + 1) w2 (w2.alloc (.cells #[.int .u8 1] 5)) := (Below.refl _ _).alloc hs2 _
  have hHL : Hid (bs.length + 1 ≤ 140737488355328) := by show _ ≤ _; rw [HN.out]; omega
  go_wp2_with (at_builtin; refine wpList_append_rd rfl (.tmp 13) (.tmp 17) 27 rfl (w.heap.size + 1) 5 i0 Try.underlying27 hi0 hz0 hz1 hz2 _ bs (by rfl) (hO1' _) (some ⟨w2.heap.size, 0, none⟩) [1] 1 1 (by rfl) hrx rfl hHL.out (by simp; omega) ?_; intro v3 w3 hO3 hb3' _ _; have hb3 := hb3' _ hbe; clear hb3'; have hB3 := hB2.below hb3 (Nat.lt_succ_self _); clear c0 c1 c2; obtain ⟨c0, c1, c2, _, _, _⟩ := blk3 hB3)
  obtain ⟨D, c, hv, hc, hr3⟩ := hO3.rd
  have HLN : Hid ((bs ++ [1]).length = n + 1) := by show _ = _; rw [List.length_append, HN.out]; rfl
  rw [HLN.out] at hv
  subst hv
  have hbw3 : Below w.heap.size w w3 := hbw.trans (hb3.mono (Nat.le_succ _))
  clear hO1 hO1' hO3 hb3 hbe hrx hB2 hB3 hbw hc
  refine (refPutInt_at D (bs ++ [1]) (n + 1) c L i HLN.out HL.out h1 h2 (by omega) w3 hr3).mono ?_
  rintro e w4 ⟨D4, c4, rfl, hb4, hr4⟩
  go_wp2_with fail
  go_ret
  exact ⟨D4, c4, rfl, below_next hbw3 (Nat.le_refl _) hb4, by rw [HP.out]; simpa using hr4⟩
set_option maxRecDepth 100000 in
theorem rvput_text (A : Option Addr) (bs : List UInt8) (n cap L : Nat) (t : List UInt8) (hn : bs.length = n) (hL : n + (Wire.put 2 ++ Wire.text t).length = L) (hl : n + 200 ≤ 140737488355328) (ht : t.length ≤ 64) (w : World) (hr : Rd w A bs) :
    Calls Try.prog 37 #[.slice A n cap, .agg #[.int .i64 2, .int .i64 0, .string ⟨t.toArray⟩]] w (LaysR w (bs ++ (Wire.put 2 ++ Wire.text t)) L) := by
  have HP := Lib.hid (Wire.put_lo 2 (by decide))
  have hL' : n + 1 + (Wire.text t).length = L := by rw [HP.out] at hL; simp at hL ⊢; omega
  have HL := Lib.hid hL'
  clear hL hL'
  obtain ⟨i0, hi0, hz0, hz1, hz2⟩ := info_parts byte_info
  have HN := Lib.hid hn
  clear hn
  obtain ⟨hB, hb0⟩ := box3 w 23 (.int .i64 2) (.int .i64 0) (.string ⟨t.toArray⟩)
  have hsz : (w.alloc (.cells #[.int .i64 2, .int .i64 0, .string ⟨t.toArray⟩] 23)).heap.size = w.heap.size + 1 := by simp
  have hr2 := (hr.below hb0).below ((Below.refl _ _).alloc (Nat.le_refl _) (.cells #[] 5))
  have hO0 := Own.empty (w.alloc (.cells #[.int .i64 2, .int .i64 0, .string ⟨t.toArray⟩] 23)) (w.heap.size + 1) 5 (Nat.le_of_eq hsz.symm)
  rw [hsz] at hO0
  have hbe : Below (w.heap.size + 1) (w.alloc (.cells #[.int .i64 2, .int .i64 0, .string ⟨t.toArray⟩] 23)) ((w.alloc (.cells #[.int .i64 2, .int .i64 0, .string ⟨t.toArray⟩] 23)).alloc (.cells #[] 5)) := (Below.refl _ _).alloc (Nat.le_of_eq hsz.symm) _
  go_enter Try.func37, Try.ntmps37
  go_wp2_with (at_builtin; refine wpList_append_rd rfl (.tmp 6) (.tmp 7) 27 rfl (w.heap.size + 1) 5 i0 Try.underlying27 hi0 hz0 hz1 hz2 _ [] (by rfl) hO0 A bs n cap (by rfl) hr2 HN.out (by simp; omega) (by simp) ?_; intro v1 w1 hO1 hb1' _ _; have hb1 := hb1' _ hbe; clear hb1'; have hB1 := hB.below hb1 (Nat.lt_succ_self _); obtain ⟨c0, c1, c2, _, _, _⟩ := blk3 hB1)
  rw [List.nil_append] at hO1
  have hbw : Below w.heap.size w w1 := hb0.trans (hb1.mono (Nat.le_succ _))
  have hs1 : w.heap.size + 1 ≤ w1.heap.size := by have := hb1.size; omega
  clear hO0 hr2 hbe hB hb0 hb1
  refine (refRight_is 2 (0) t w1 (by omega) true (by simp [Vals.right, ht])).mono ?_
  rintro e w2 ⟨rfl, hb2⟩
  replace hO1 := hO1.below hb2
  have hB2 := hB1.below hb2 hB1.lt
  replace hbw := below_next hbw (Nat.le_refl _) hb2
  have hs2 : w.heap.size + 1 ≤ w2.heap.size := Nat.le_trans hs1 hb2.size
  clear c0 c1 c2 hB1 hb2 hs1
  obtain ⟨c0, c1, c2, _, _, _⟩ := blk3 hB2
  have hO1' : ∀ o, Own (w2.alloc o) (w.heap.size + 1) 5 v1 bs := fun o => hO1.below ((Below.refl _ _).alloc (Nat.le_refl _) o)
  have hrx := rd_const w2 5 (0, 0) #[.int .u8 2] [2] rfl
  have hbe : Below (w.heap.size + 1) w2 (w2.alloc (.cells #[.int .u8 2] 5)) := (Below.refl _ _).alloc hs2 _
  have hHL : Hid (bs.length + 1 ≤ 140737488355328) := by show _ ≤ _; rw [HN.out]; omega
  go_wp2_with (at_builtin; refine wpList_append_rd rfl (.tmp 13) (.tmp 17) 27 rfl (w.heap.size + 1) 5 i0 Try.underlying27 hi0 hz0 hz1 hz2 _ bs (by rfl) (hO1' _) (some ⟨w2.heap.size, 0, none⟩) [2] 1 1 (by rfl) hrx rfl hHL.out (by simp; omega) ?_; intro v3 w3 hO3 hb3' _ _; have hb3 := hb3' _ hbe; clear hb3'; have hB3 := hB2.below hb3 (Nat.lt_succ_self _); clear c0 c1 c2; obtain ⟨c0, c1, c2, _, _, _⟩ := blk3 hB3)
  obtain ⟨D, c, hv, hc, hr3⟩ := hO3.rd
  have HLN : Hid ((bs ++ [2]).length = n + 1) := by show _ = _; rw [List.length_append, HN.out]; rfl
  rw [HLN.out] at hv
  subst hv
  have hbw3 : Below w.heap.size w w3 := hbw.trans (hb3.mono (Nat.le_succ _))
  clear hO1 hO1' hO3 hb3 hbe hrx hB2 hB3 hbw hc
  refine (refPutText_at D (bs ++ [2]) t (n + 1) c t.length L HLN.out rfl HL.out (by omega) w3 hr3).mono ?_
  rintro e w4 ⟨D4, c4, rfl, hb4, hr4⟩
  go_wp2_with fail
  go_ret
  exact ⟨D4, c4, rfl, below_next hbw3 (Nat.le_refl _) hb4, by rw [HP.out]; simpa using hr4⟩
set_option maxRecDepth 100000 in
theorem rvput_off (A : Option Addr) (bs : List UInt8) (n cap L : Nat)  (hn : bs.length = n) (hL : n + (Wire.put 3 ++ Wire.put 0).length = L) (hl : n + 200 ≤ 140737488355328)  (w : World) (hr : Rd w A bs) :
    Calls Try.prog 37 #[.slice A n cap, .agg #[.int .i64 3, .int .i64 0, .string ⟨#[]⟩]] w (LaysR w (bs ++ (Wire.put 3 ++ Wire.put 0)) L) := by
  have HP := Lib.hid (Wire.put_lo 3 (by decide))
  have hL' : n + 1 + (Wire.put 0).length = L := by rw [HP.out] at hL; simp at hL ⊢; omega
  have HL := Lib.hid hL'
  clear hL hL'
  obtain ⟨i0, hi0, hz0, hz1, hz2⟩ := info_parts byte_info
  have HN := Lib.hid hn
  clear hn
  obtain ⟨hB, hb0⟩ := box3 w 23 (.int .i64 3) (.int .i64 0) (.string ⟨#[]⟩)
  have hsz : (w.alloc (.cells #[.int .i64 3, .int .i64 0, .string ⟨#[]⟩] 23)).heap.size = w.heap.size + 1 := by simp
  have hr2 := (hr.below hb0).below ((Below.refl _ _).alloc (Nat.le_refl _) (.cells #[] 5))
  have hO0 := Own.empty (w.alloc (.cells #[.int .i64 3, .int .i64 0, .string ⟨#[]⟩] 23)) (w.heap.size + 1) 5 (Nat.le_of_eq hsz.symm)
  rw [hsz] at hO0
  have hbe : Below (w.heap.size + 1) (w.alloc (.cells #[.int .i64 3, .int .i64 0, .string ⟨#[]⟩] 23)) ((w.alloc (.cells #[.int .i64 3, .int .i64 0, .string ⟨#[]⟩] 23)).alloc (.cells #[] 5)) := (Below.refl _ _).alloc (Nat.le_of_eq hsz.symm) _
  go_enter Try.func37, Try.ntmps37
  go_wp2_with (at_builtin; refine wpList_append_rd rfl (.tmp 6) (.tmp 7) 27 rfl (w.heap.size + 1) 5 i0 Try.underlying27 hi0 hz0 hz1 hz2 _ [] (by rfl) hO0 A bs n cap (by rfl) hr2 HN.out (by simp; omega) (by simp) ?_; intro v1 w1 hO1 hb1' _ _; have hb1 := hb1' _ hbe; clear hb1'; have hB1 := hB.below hb1 (Nat.lt_succ_self _); obtain ⟨c0, c1, c2, _, _, _⟩ := blk3 hB1)
  rw [List.nil_append] at hO1
  have hbw : Below w.heap.size w w1 := hb0.trans (hb1.mono (Nat.le_succ _))
  have hs1 : w.heap.size + 1 ≤ w1.heap.size := by have := hb1.size; omega
  clear hO0 hr2 hbe hB hb0 hb1
  refine (refRight_is 3 (0) [] w1 (by simp) true rfl).mono ?_
  rintro e w2 ⟨rfl, hb2⟩
  replace hO1 := hO1.below hb2
  have hB2 := hB1.below hb2 hB1.lt
  replace hbw := below_next hbw (Nat.le_refl _) hb2
  have hs2 : w.heap.size + 1 ≤ w2.heap.size := Nat.le_trans hs1 hb2.size
  clear c0 c1 c2 hB1 hb2 hs1
  obtain ⟨c0, c1, c2, _, _, _⟩ := blk3 hB2
  have hO1' : ∀ o, Own (w2.alloc o) (w.heap.size + 1) 5 v1 bs := fun o => hO1.below ((Below.refl _ _).alloc (Nat.le_refl _) o)
  have hrx := rd_const w2 5 (0, 0) #[.int .u8 3] [3] rfl
  have hbe : Below (w.heap.size + 1) w2 (w2.alloc (.cells #[.int .u8 3] 5)) := (Below.refl _ _).alloc hs2 _
  have hHL : Hid (bs.length + 1 ≤ 140737488355328) := by show _ ≤ _; rw [HN.out]; omega
  go_wp2_with (first | (at_builtin; refine wpList_append_rd rfl (.tmp 13) (.tmp 17) 27 rfl (w.heap.size + 1) 5 i0 Try.underlying27 hi0 hz0 hz1 hz2 _ bs (by rfl) (hO1' _) (some ⟨w2.heap.size, 0, none⟩) [3] 1 1 (by rfl) hrx rfl hHL.out (by simp; omega) ?_; intro v3 w3 hO3 hb3' _ _; have hb3 := hb3' _ hbe; clear hb3'; have hB3 := hB2.below hb3 (Nat.lt_succ_self _); clear c0 c1 c2; obtain ⟨c0, c1, c2, _, _, _⟩ := blk3 hB3; have hO3' : ∀ o, Own (w3.alloc o) (w.heap.size + 1) 5 v3 (bs ++ [3]) := fun o => hO3.below ((Below.refl _ _).alloc (Nat.le_refl _) o); have hs3 : w.heap.size + 1 ≤ w3.heap.size := Nat.le_trans hs2 hb3.size; have hrx3 := rd_const w3 5 (0, 0) #[.int .u8 0] [0] rfl; have hHL3 : Hid ((bs ++ [3]).length + 1 ≤ 140737488355328) := (by show _ ≤ _; rw [List.length_append, HN.out]; simp; omega); have hbe3 : Below (w.heap.size + 1) w3 (w3.alloc (.cells #[.int .u8 0] 5)) := (Below.refl _ _).alloc hs3 _; have hbw3 : Below w.heap.size w w3 := hbw.trans (hb3.mono (Nat.le_succ _)); clear hO1 hO1' hbe hrx hB2 hbw) | (at_builtin; refine wpList_append_rd rfl (.tmp 33) (.tmp 37) 27 rfl (w.heap.size + 1) 5 i0 Try.underlying27 hi0 hz0 hz1 hz2 _ (bs ++ [3]) (by rfl) (hO3' _) (some ⟨w3.heap.size, 0, none⟩) [0] 1 1 (by rfl) hrx3 rfl hHL3.out (by simp; omega) ?_; intro v4 w4 hO4 hb4' _ _; have hb4 := hb4' _ hbe3; clear hb4'))
  obtain ⟨D, c, hv, hc, hr4⟩ := hO4.rd
  have HLL : Hid ((bs ++ [3] ++ [0]).length = L) := by
    show _ = _
    rw [← HL.out, Wire.put_lo 0 (by decide), List.length_append, List.length_append, HN.out]; rfl
  rw [HLL.out] at hv
  subst hv
  go_ret
  exact ⟨D, c, rfl, hbw3.trans (hb4.mono (Nat.le_succ _)), by rw [HP.out, Wire.put_lo 0 (by decide)]; simpa using hr4⟩
set_option maxRecDepth 100000 in
theorem rvput_on (A : Option Addr) (bs : List UInt8) (n cap L : Nat)  (hn : bs.length = n) (hL : n + (Wire.put 3 ++ Wire.put 1).length = L) (hl : n + 200 ≤ 140737488355328)  (w : World) (hr : Rd w A bs) :
    Calls Try.prog 37 #[.slice A n cap, .agg #[.int .i64 3, .int .i64 1, .string ⟨#[]⟩]] w (LaysR w (bs ++ (Wire.put 3 ++ Wire.put 1)) L) := by
  have HP := Lib.hid (Wire.put_lo 3 (by decide))
  have hL' : n + 1 + (Wire.put 1).length = L := by rw [HP.out] at hL; simp at hL ⊢; omega
  have HL := Lib.hid hL'
  clear hL hL'
  obtain ⟨i0, hi0, hz0, hz1, hz2⟩ := info_parts byte_info
  have HN := Lib.hid hn
  clear hn
  obtain ⟨hB, hb0⟩ := box3 w 23 (.int .i64 3) (.int .i64 1) (.string ⟨#[]⟩)
  have hsz : (w.alloc (.cells #[.int .i64 3, .int .i64 1, .string ⟨#[]⟩] 23)).heap.size = w.heap.size + 1 := by simp
  have hr2 := (hr.below hb0).below ((Below.refl _ _).alloc (Nat.le_refl _) (.cells #[] 5))
  have hO0 := Own.empty (w.alloc (.cells #[.int .i64 3, .int .i64 1, .string ⟨#[]⟩] 23)) (w.heap.size + 1) 5 (Nat.le_of_eq hsz.symm)
  rw [hsz] at hO0
  have hbe : Below (w.heap.size + 1) (w.alloc (.cells #[.int .i64 3, .int .i64 1, .string ⟨#[]⟩] 23)) ((w.alloc (.cells #[.int .i64 3, .int .i64 1, .string ⟨#[]⟩] 23)).alloc (.cells #[] 5)) := (Below.refl _ _).alloc (Nat.le_of_eq hsz.symm) _
  go_enter Try.func37, Try.ntmps37
  go_wp2_with (at_builtin; refine wpList_append_rd rfl (.tmp 6) (.tmp 7) 27 rfl (w.heap.size + 1) 5 i0 Try.underlying27 hi0 hz0 hz1 hz2 _ [] (by rfl) hO0 A bs n cap (by rfl) hr2 HN.out (by simp; omega) (by simp) ?_; intro v1 w1 hO1 hb1' _ _; have hb1 := hb1' _ hbe; clear hb1'; have hB1 := hB.below hb1 (Nat.lt_succ_self _); obtain ⟨c0, c1, c2, _, _, _⟩ := blk3 hB1)
  rw [List.nil_append] at hO1
  have hbw : Below w.heap.size w w1 := hb0.trans (hb1.mono (Nat.le_succ _))
  have hs1 : w.heap.size + 1 ≤ w1.heap.size := by have := hb1.size; omega
  clear hO0 hr2 hbe hB hb0 hb1
  refine (refRight_is 3 (1) [] w1 (by simp) true rfl).mono ?_
  rintro e w2 ⟨rfl, hb2⟩
  replace hO1 := hO1.below hb2
  have hB2 := hB1.below hb2 hB1.lt
  replace hbw := below_next hbw (Nat.le_refl _) hb2
  have hs2 : w.heap.size + 1 ≤ w2.heap.size := Nat.le_trans hs1 hb2.size
  clear c0 c1 c2 hB1 hb2 hs1
  obtain ⟨c0, c1, c2, _, _, _⟩ := blk3 hB2
  have hO1' : ∀ o, Own (w2.alloc o) (w.heap.size + 1) 5 v1 bs := fun o => hO1.below ((Below.refl _ _).alloc (Nat.le_refl _) o)
  have hrx := rd_const w2 5 (0, 0) #[.int .u8 3] [3] rfl
  have hbe : Below (w.heap.size + 1) w2 (w2.alloc (.cells #[.int .u8 3] 5)) := (Below.refl _ _).alloc hs2 _
  have hHL : Hid (bs.length + 1 ≤ 140737488355328) := by show _ ≤ _; rw [HN.out]; omega
  go_wp2_with (first | (at_builtin; refine wpList_append_rd rfl (.tmp 13) (.tmp 17) 27 rfl (w.heap.size + 1) 5 i0 Try.underlying27 hi0 hz0 hz1 hz2 _ bs (by rfl) (hO1' _) (some ⟨w2.heap.size, 0, none⟩) [3] 1 1 (by rfl) hrx rfl hHL.out (by simp; omega) ?_; intro v3 w3 hO3 hb3' _ _; have hb3 := hb3' _ hbe; clear hb3'; have hB3 := hB2.below hb3 (Nat.lt_succ_self _); clear c0 c1 c2; obtain ⟨c0, c1, c2, _, _, _⟩ := blk3 hB3; have hO3' : ∀ o, Own (w3.alloc o) (w.heap.size + 1) 5 v3 (bs ++ [3]) := fun o => hO3.below ((Below.refl _ _).alloc (Nat.le_refl _) o); have hs3 : w.heap.size + 1 ≤ w3.heap.size := Nat.le_trans hs2 hb3.size; have hrx3 := rd_const w3 5 (0, 0) #[.int .u8 1] [1] rfl; have hHL3 : Hid ((bs ++ [3]).length + 1 ≤ 140737488355328) := (by show _ ≤ _; rw [List.length_append, HN.out]; simp; omega); have hbe3 : Below (w.heap.size + 1) w3 (w3.alloc (.cells #[.int .u8 1] 5)) := (Below.refl _ _).alloc hs3 _; have hbw3 : Below w.heap.size w w3 := hbw.trans (hb3.mono (Nat.le_succ _)); clear hO1 hO1' hbe hrx hB2 hbw) | (at_builtin; refine wpList_append_rd rfl (.tmp 33) (.tmp 37) 27 rfl (w.heap.size + 1) 5 i0 Try.underlying27 hi0 hz0 hz1 hz2 _ (bs ++ [3]) (by rfl) (hO3' _) (some ⟨w3.heap.size, 0, none⟩) [1] 1 1 (by rfl) hrx3 rfl hHL3.out (by simp; omega) ?_; intro v4 w4 hO4 hb4' _ _; have hb4 := hb4' _ hbe3; clear hb4'))
  obtain ⟨D, c, hv, hc, hr4⟩ := hO4.rd
  have HLL : Hid ((bs ++ [3] ++ [1]).length = L) := by
    show _ = _
    rw [← HL.out, Wire.put_lo 1 (by decide), List.length_append, List.length_append, HN.out]; rfl
  rw [HLL.out] at hv
  subst hv
  go_ret
  exact ⟨D, c, rfl, hbw3.trans (hb4.mono (Nat.le_succ _)), by rw [HP.out, Wire.put_lo 1 (by decide)]; simpa using hr4⟩
theorem rvput_at (A : Option Addr) (bs : List UInt8) (n cap L : Nat) (k i : Int) (t : List UInt8) (hn : bs.length = n) (hL : n + (Vals.lay k i t).length = L) (hl : n + 200 ≤ 140737488355328) (h1 : -9223372036854775808 ≤ i) (h2 : i ≤ 9223372036854775807) (ht : t.length ≤ 9223372036854775807) (w : World) (hr : Rd w A bs) :
    Calls Try.prog 37 #[.slice A n cap, .agg #[.int .i64 k, .int .i64 i, .string ⟨t.toArray⟩]] w (LaysR w (bs ++ Vals.lay k i t) L) := by
  cases h : Vals.right k i t with
  | false =>
    have e : Vals.lay k i t = [] := by unfold Vals.lay; rw [h]; rfl
    rw [e] at hL ⊢
    rw [List.append_nil]
    simp only [List.length_nil, Nat.add_zero] at hL
    subst hL
    exact rvput_wrong A bs n cap k i t hn hl ht w hr h
  | true =>
    have e : Vals.lay k i t = Vals.bytes k i t := by unfold Vals.lay; rw [if_pos h]
    rw [e] at hL ⊢
    unfold Vals.bytes at hL ⊢
    rcases Vals.right_cases h with ⟨rfl, rfl⟩ | ⟨rfl, rfl, ht'⟩ | ⟨rfl, rfl, rfl | rfl⟩
    · rw [if_pos rfl] at hL ⊢
      exact rvput_int A bs n cap L i hn hL hl h1 h2 w hr
    · rw [if_neg (by decide), if_pos rfl] at hL ⊢
      exact rvput_text A bs n cap L t hn hL hl ht' w hr
    · rw [if_neg (by decide), if_neg (by decide)] at hL ⊢
      exact rvput_off A bs n cap L hn hL hl w hr
    · rw [if_neg (by decide), if_neg (by decide)] at hL ⊢
      exact rvput_on A bs n cap L hn hL hl w hr
end Go.Proofs.Ytcmjekchfgnbdaa
