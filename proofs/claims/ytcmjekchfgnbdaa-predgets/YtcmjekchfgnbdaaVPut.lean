/- Package value: Put. -/
import Derived.Test.YtcmjekchfgnbdaaVRight
import Derived.Test.YtcmjekchfgnbdaaWLay
namespace Go.Proofs.Ytcmjekchfgnbdaa
open Go.RowKit
theorem right_is (k i : Int) (t : List UInt8) (w : World) (hl : t.length ≤ 9223372036854775807) (b : Bool) (hb : Vals.right k i t = b) :
    Calls Try.prog 24 #[.agg #[.int .i64 k, .int .i64 i, .string ⟨t.toArray⟩]] w fun e w' => e = .returned (.bool b) ∧ Below w.heap.size w w' := by
  subst hb; exact right_at k i t w hl
/-- New bytes, told as a slice. -/
def Lays (w : World) (bs : List UInt8) (L : Nat) (e : Ending) (w' : World) : Prop := ∃ D c, e = .returned (.slice D L c) ∧ L ≤ c ∧ Below w.heap.size w w' ∧ Rd w' D bs
theorem box3 (w : World) (t : TypeId) (a b c : Value) : Blk (w.alloc (.cells #[a, b, c] t)) w.heap.size t #[a, b, c] ∧ Below w.heap.size w (w.alloc (.cells #[a, b, c] t)) :=
  ⟨Blk.new w _ _, (Below.refl _ _).alloc (Nat.le_refl _) _⟩
theorem box3x2 (w : World) (t : TypeId) (a b c a' b' c' : Value) :
    Blk ((w.alloc (.cells #[a, b, c] t)).alloc (.cells #[a', b', c'] t)) w.heap.size t #[a, b, c] ∧ Blk ((w.alloc (.cells #[a, b, c] t)).alloc (.cells #[a', b', c'] t)) (w.heap.size + 1) t #[a', b', c'] ∧
      Below w.heap.size w ((w.alloc (.cells #[a, b, c] t)).alloc (.cells #[a', b', c'] t)) :=
  ⟨(Blk.new w _ _).alloc _, by simpa using Blk.new (w.alloc (.cells #[a, b, c] t)) t #[a', b', c'], ((Below.refl _ _).alloc (Nat.le_refl _) _).alloc (by simp) _⟩
theorem box3x3 (w : World) (t : TypeId) (a b c a' b' c' a'' b'' c'' : Value) :
    Blk (((w.alloc (.cells #[a, b, c] t)).alloc (.cells #[a', b', c'] t)).alloc (.cells #[a'', b'', c''] t)) w.heap.size t #[a, b, c] ∧ Blk (((w.alloc (.cells #[a, b, c] t)).alloc (.cells #[a', b', c'] t)).alloc (.cells #[a'', b'', c''] t)) (w.heap.size + 1) t #[a', b', c'] ∧
      Blk (((w.alloc (.cells #[a, b, c] t)).alloc (.cells #[a', b', c'] t)).alloc (.cells #[a'', b'', c''] t)) (w.heap.size + 2) t #[a'', b'', c''] ∧ Below w.heap.size w (((w.alloc (.cells #[a, b, c] t)).alloc (.cells #[a', b', c'] t)).alloc (.cells #[a'', b'', c''] t)) :=
  ⟨((Blk.new w _ _).alloc _).alloc _, by simpa using (Blk.new (w.alloc (.cells #[a, b, c] t)) t #[a', b', c']).alloc (.cells #[a'', b'', c''] t), by simpa using Blk.new ((w.alloc (.cells #[a, b, c] t)).alloc (.cells #[a', b', c'] t)) t #[a'', b'', c''],
    (((Below.refl _ _).alloc (Nat.le_refl _) _).alloc (by simp) _).alloc (by simp; omega) _⟩
set_option maxRecDepth 100000 in
theorem vput_wrong (A : Option Addr) (bs : List UInt8) (n cap : Nat) (k i : Int) (t : List UInt8) (hn : bs.length = n) (hl : n ≤ 140737488355328) (ht : t.length ≤ 9223372036854775807) (w : World) (hr : Rd w A bs) (hw : Vals.right k i t = false) :
    Calls Try.prog 35 #[.slice A n cap, .agg #[.int .i64 k, .int .i64 i, .string ⟨t.toArray⟩]] w (Lays w bs n) := by
  obtain ⟨i0, hi0, hz0, hz1, hz2⟩ := info_parts byte_info
  have HW := Lib.hid hw
  have HN := Lib.hid hn
  clear hw hn
  go_enter Try.func35, Try.ntmps35
  go_wp2_with fail
  obtain ⟨hB, hb0⟩ := box3 w 23 (.int .i64 k) (.int .i64 i) (.string ⟨t.toArray⟩)
  generalize w.alloc (.cells #[.int .i64 k, .int .i64 i, .string ⟨t.toArray⟩] 23) = w0 at *
  refine (right_is k i t w0 ht false HW.out).mono ?_
  rintro e w1 ⟨rfl, hb1⟩
  have hb1w := hb0.trans (hb1.mono hb0.size)
  have hr1 := (hr.below hb1w).below ((Below.refl _ _).alloc (Nat.le_refl _) (.cells #[] 5))
  clear hB hb0 hb1
  go_wp2_with (at_builtin; refine wpList_append_rd rfl (.tmp 9) (.tmp 10) 27 rfl w1.heap.size 5 i0 Try.underlying27 hi0 hz0 hz1 hz2 _ [] (by rfl) (Own.empty w1 w1.heap.size 5 (Nat.le_refl _)) A bs n cap (by rfl) hr1 HN.out (by simp; omega) (by simp) ?_; intro v2 w2 hO2 hb2' _ _)
  rw [List.nil_append] at hO2
  have hb2 := hb2' w1 ((Below.refl _ _).alloc (Nat.le_refl _) _)
  obtain ⟨D, c, rfl, hc, hr2⟩ := hO2.rd
  rw [HN.out] at hc
  go_ret
  rw [HN.out]
  exact ⟨D, c, rfl, hc, hb1w.trans (hb2.mono hb1w.size), hr2⟩
set_option maxRecDepth 100000 in
theorem vput_int (A : Option Addr) (bs : List UInt8) (n cap L : Nat) (i : Int) (hn : bs.length = n) (hL : n + (Wire.put 1 ++ Wire.put (Wire.zig i)).length = L) (hl : L ≤ 140737488355328) (h1 : -9223372036854775808 ≤ i) (h2 : i ≤ 9223372036854775807) (w : World) (hr : Rd w A bs) :
    Calls Try.prog 35 #[.slice A n cap, .agg #[.int .i64 1, .int .i64 i, .string ⟨#[]⟩]] w (Lays w (bs ++ (Wire.put 1 ++ Wire.put (Wire.zig i))) L) := by
  have HN := Lib.hid hn
  have HL := Lib.hid hL
  have HP := Lib.hid (Wire.put_lo 1 (by decide))
  have HL1 : Hid (n + (Wire.put 1).length = n + 1) := by show _ = _; rw [HP.out]; rfl
  have hL' : n + 1 + (Wire.put (Wire.zig i)).length = L := by rw [HP.out] at hL; simp at hL ⊢; omega
  have HL' := Lib.hid hL'
  have hl1 : n + 1 ≤ 140737488355328 := by omega
  clear hL hL' hn
  go_enter Try.func35, Try.ntmps35
  go_wp2_with fail
  obtain ⟨hB, hb0⟩ := box3 w 23 (.int .i64 1) (.int .i64 i) (.string ⟨#[]⟩)
  generalize w.alloc (.cells #[.int .i64 1, .int .i64 i, .string ⟨#[]⟩] 23) = w0 at *
  refine (right_is 1 (i) [] w0 (by simp) true rfl).mono ?_
  rintro e w1 ⟨rfl, hb1⟩
  have hb1w := hb0.trans (hb1.mono hb0.size)
  obtain ⟨c0, c1, c2, f0, f1, f2⟩ := blk3 (hB.below hb1 hB.lt)
  have hB1 := hB.below hb1 hB.lt
  have hr1 := hr.below hb1w
  clear hB hb0 hb1
  go_wp2_with fail
  refine (put_at A bs n cap 1 (n + 1) HN.out HL1.out (by decide) hl1 w1 hr1).mono ?_
  rintro e w2 ⟨g2, rfl, hg2, hb2, hB2⟩
  have hb2w := hb1w.trans (hb2.mono hb1w.size)
  clear c0 c1 c2 f0 f1 f2
  obtain ⟨c0, c1, c2, f0, f1, f2⟩ := blk3 (hB1.below hb2 hB1.lt)
  have HN2 : Hid ((bs ++ Wire.put 1).length = n + 1) := by show _ = _; rw [List.length_append, HN.out, HP.out]; rfl
  clear hb1w hr1 hB1
  go_wp2_with fail
  refine (putInt_at (some ⟨g2, 0, none⟩) (bs ++ Wire.put 1) (n + 1) (n + 1) L i HN2.out HL'.out h1 h2 hl w2 hB2.rd).mono ?_
  rintro e w3 ⟨g3, rfl, hg3, hb3, hB3⟩
  go_wp2_with fail
  go_ret
  exact ⟨_, _, rfl, Nat.le_refl _, hb2w.trans (hb3.mono hb2w.size), by rw [← List.append_assoc]; exact hB3.rd⟩
set_option maxRecDepth 100000 in
theorem vput_text (A : Option Addr) (bs : List UInt8) (n cap L : Nat) (t : List UInt8) (hn : bs.length = n) (hL : n + (Wire.put 2 ++ Wire.text t).length = L) (hl : L ≤ 140737488355328) (ht : t.length ≤ 64) (w : World) (hr : Rd w A bs) :
    Calls Try.prog 35 #[.slice A n cap, .agg #[.int .i64 2, .int .i64 0, .string ⟨t.toArray⟩]] w (Lays w (bs ++ (Wire.put 2 ++ Wire.text t)) L) := by
  have HN := Lib.hid hn
  have HL := Lib.hid hL
  have HP := Lib.hid (Wire.put_lo 2 (by decide))
  have HL1 : Hid (n + (Wire.put 2).length = n + 1) := by show _ = _; rw [HP.out]; rfl
  have hL' : n + 1 + (Wire.text t).length = L := by rw [HP.out] at hL; simp at hL ⊢; omega
  have HL' := Lib.hid hL'
  have hl1 : n + 1 ≤ 140737488355328 := by omega
  clear hL hL' hn
  go_enter Try.func35, Try.ntmps35
  go_wp2_with fail
  obtain ⟨hB, hb0⟩ := box3 w 23 (.int .i64 2) (.int .i64 0) (.string ⟨t.toArray⟩)
  generalize w.alloc (.cells #[.int .i64 2, .int .i64 0, .string ⟨t.toArray⟩] 23) = w0 at *
  refine (right_is 2 (0) t w0 (by omega) true (by simp [Vals.right, ht])).mono ?_
  rintro e w1 ⟨rfl, hb1⟩
  have hb1w := hb0.trans (hb1.mono hb0.size)
  obtain ⟨c0, c1, c2, f0, f1, f2⟩ := blk3 (hB.below hb1 hB.lt)
  have hB1 := hB.below hb1 hB.lt
  have hr1 := hr.below hb1w
  clear hB hb0 hb1
  go_wp2_with fail
  refine (put_at A bs n cap 2 (n + 1) HN.out HL1.out (by decide) hl1 w1 hr1).mono ?_
  rintro e w2 ⟨g2, rfl, hg2, hb2, hB2⟩
  have hb2w := hb1w.trans (hb2.mono hb1w.size)
  clear c0 c1 c2 f0 f1 f2
  obtain ⟨c0, c1, c2, f0, f1, f2⟩ := blk3 (hB1.below hb2 hB1.lt)
  have HN2 : Hid ((bs ++ Wire.put 2).length = n + 1) := by show _ = _; rw [List.length_append, HN.out, HP.out]; rfl
  clear hb1w hr1 hB1
  go_wp2_with fail
  refine (putText_at (some ⟨g2, 0, none⟩) (bs ++ Wire.put 2) t (n + 1) (n + 1) t.length L HN2.out rfl HL'.out hl w2 hB2.rd).mono ?_
  rintro e w3 ⟨g3, rfl, hg3, hb3, hB3⟩
  go_wp2_with fail
  go_ret
  exact ⟨_, _, rfl, Nat.le_refl _, hb2w.trans (hb3.mono hb2w.size), by rw [← List.append_assoc]; exact hB3.rd⟩
set_option maxRecDepth 100000 in
theorem vput_off (A : Option Addr) (bs : List UInt8) (n cap L : Nat)  (hn : bs.length = n) (hL : n + (Wire.put 3 ++ Wire.put 0).length = L) (hl : L ≤ 140737488355328)  (w : World) (hr : Rd w A bs) :
    Calls Try.prog 35 #[.slice A n cap, .agg #[.int .i64 3, .int .i64 0, .string ⟨#[]⟩]] w (Lays w (bs ++ (Wire.put 3 ++ Wire.put 0)) L) := by
  have HN := Lib.hid hn
  have HL := Lib.hid hL
  have HP := Lib.hid (Wire.put_lo 3 (by decide))
  have HL1 : Hid (n + (Wire.put 3).length = n + 1) := by show _ = _; rw [HP.out]; rfl
  have hL' : n + 1 + (Wire.put 0).length = L := by rw [HP.out] at hL; simp at hL ⊢; omega
  have HL' := Lib.hid hL'
  have hl1 : n + 1 ≤ 140737488355328 := by omega
  clear hL hL' hn
  go_enter Try.func35, Try.ntmps35
  go_wp2_with fail
  obtain ⟨hB, hb0⟩ := box3 w 23 (.int .i64 3) (.int .i64 0) (.string ⟨#[]⟩)
  generalize w.alloc (.cells #[.int .i64 3, .int .i64 0, .string ⟨#[]⟩] 23) = w0 at *
  refine (right_is 3 (0) [] w0 (by simp) true rfl).mono ?_
  rintro e w1 ⟨rfl, hb1⟩
  have hb1w := hb0.trans (hb1.mono hb0.size)
  obtain ⟨c0, c1, c2, f0, f1, f2⟩ := blk3 (hB.below hb1 hB.lt)
  have hB1 := hB.below hb1 hB.lt
  have hr1 := hr.below hb1w
  clear hB hb0 hb1
  go_wp2_with fail
  refine (put_at A bs n cap 3 (n + 1) HN.out HL1.out (by decide) hl1 w1 hr1).mono ?_
  rintro e w2 ⟨g2, rfl, hg2, hb2, hB2⟩
  have hb2w := hb1w.trans (hb2.mono hb1w.size)
  clear c0 c1 c2 f0 f1 f2
  obtain ⟨c0, c1, c2, f0, f1, f2⟩ := blk3 (hB1.below hb2 hB1.lt)
  have HN2 : Hid ((bs ++ Wire.put 3).length = n + 1) := by show _ = _; rw [List.length_append, HN.out, HP.out]; rfl
  clear hb1w hr1 hB1
  go_wp2_with fail
  refine (put_at (some ⟨g2, 0, none⟩) (bs ++ Wire.put 3) (n + 1) (n + 1) 0 L HN2.out HL'.out (by decide) hl w2 hB2.rd).mono ?_
  rintro e w3 ⟨g3, rfl, hg3, hb3, hB3⟩
  go_wp2_with fail
  go_ret
  exact ⟨_, _, rfl, Nat.le_refl _, hb2w.trans (hb3.mono hb2w.size), by rw [← List.append_assoc]; exact hB3.rd⟩
set_option maxRecDepth 100000 in
theorem vput_on (A : Option Addr) (bs : List UInt8) (n cap L : Nat)  (hn : bs.length = n) (hL : n + (Wire.put 3 ++ Wire.put 1).length = L) (hl : L ≤ 140737488355328)  (w : World) (hr : Rd w A bs) :
    Calls Try.prog 35 #[.slice A n cap, .agg #[.int .i64 3, .int .i64 1, .string ⟨#[]⟩]] w (Lays w (bs ++ (Wire.put 3 ++ Wire.put 1)) L) := by
  have HN := Lib.hid hn
  have HL := Lib.hid hL
  have HP := Lib.hid (Wire.put_lo 3 (by decide))
  have HL1 : Hid (n + (Wire.put 3).length = n + 1) := by show _ = _; rw [HP.out]; rfl
  have hL' : n + 1 + (Wire.put 1).length = L := by rw [HP.out] at hL; simp at hL ⊢; omega
  have HL' := Lib.hid hL'
  have hl1 : n + 1 ≤ 140737488355328 := by omega
  clear hL hL' hn
  go_enter Try.func35, Try.ntmps35
  go_wp2_with fail
  obtain ⟨hB, hb0⟩ := box3 w 23 (.int .i64 3) (.int .i64 1) (.string ⟨#[]⟩)
  generalize w.alloc (.cells #[.int .i64 3, .int .i64 1, .string ⟨#[]⟩] 23) = w0 at *
  refine (right_is 3 (1) [] w0 (by simp) true rfl).mono ?_
  rintro e w1 ⟨rfl, hb1⟩
  have hb1w := hb0.trans (hb1.mono hb0.size)
  obtain ⟨c0, c1, c2, f0, f1, f2⟩ := blk3 (hB.below hb1 hB.lt)
  have hB1 := hB.below hb1 hB.lt
  have hr1 := hr.below hb1w
  clear hB hb0 hb1
  go_wp2_with fail
  refine (put_at A bs n cap 3 (n + 1) HN.out HL1.out (by decide) hl1 w1 hr1).mono ?_
  rintro e w2 ⟨g2, rfl, hg2, hb2, hB2⟩
  have hb2w := hb1w.trans (hb2.mono hb1w.size)
  clear c0 c1 c2 f0 f1 f2
  obtain ⟨c0, c1, c2, f0, f1, f2⟩ := blk3 (hB1.below hb2 hB1.lt)
  have HN2 : Hid ((bs ++ Wire.put 3).length = n + 1) := by show _ = _; rw [List.length_append, HN.out, HP.out]; rfl
  clear hb1w hr1 hB1
  go_wp2_with fail
  refine (put_at (some ⟨g2, 0, none⟩) (bs ++ Wire.put 3) (n + 1) (n + 1) 1 L HN2.out HL'.out (by decide) hl w2 hB2.rd).mono ?_
  rintro e w3 ⟨g3, rfl, hg3, hb3, hB3⟩
  go_wp2_with fail
  go_ret
  exact ⟨_, _, rfl, Nat.le_refl _, hb2w.trans (hb3.mono hb2w.size), by rw [← List.append_assoc]; exact hB3.rd⟩
theorem vput_at (A : Option Addr) (bs : List UInt8) (n cap L : Nat) (k i : Int) (t : List UInt8) (hn : bs.length = n) (hL : n + (Vals.lay k i t).length = L) (hl : L ≤ 140737488355328) (h1 : -9223372036854775808 ≤ i) (h2 : i ≤ 9223372036854775807) (ht : t.length ≤ 9223372036854775807) (w : World) (hr : Rd w A bs) :
    Calls Try.prog 35 #[.slice A n cap, .agg #[.int .i64 k, .int .i64 i, .string ⟨t.toArray⟩]] w (Lays w (bs ++ Vals.lay k i t) L) := by
  cases h : Vals.right k i t with
  | false =>
    have e : Vals.lay k i t = [] := by unfold Vals.lay; rw [h]; rfl
    rw [e] at hL ⊢
    rw [List.append_nil]
    simp only [List.length_nil, Nat.add_zero] at hL
    subst hL
    exact vput_wrong A bs n cap k i t hn hl ht w hr h
  | true =>
    have e : Vals.lay k i t = Vals.bytes k i t := by unfold Vals.lay; rw [if_pos h]
    rw [e] at hL ⊢
    unfold Vals.bytes at hL ⊢
    rcases Vals.right_cases h with ⟨rfl, rfl⟩ | ⟨rfl, rfl, ht'⟩ | ⟨rfl, rfl, rfl | rfl⟩
    · rw [if_pos rfl] at hL ⊢
      exact vput_int A bs n cap L i hn hL hl h1 h2 w hr
    · rw [if_neg (by decide), if_pos rfl] at hL ⊢
      exact vput_text A bs n cap L t hn hL hl ht' w hr
    · rw [if_neg (by decide), if_neg (by decide)] at hL ⊢
      exact vput_off A bs n cap L hn hL hl w hr
    · rw [if_neg (by decide), if_neg (by decide)] at hL ⊢
      exact vput_on A bs n cap L hn hL hl w hr
end Go.Proofs.Ytcmjekchfgnbdaa
