/- Contracts of the program and of the document (REnd, RPrs), each used further on. -/
import Derived.Test.YtoffnfooeojhnaaN3
namespace Go.Proofs.Ytoffnfooeojhnaa
open Go.RowKit Go.Sort Spans Op
theorem rzero_is (s : List UInt8) (hs : s.length <= 1000) (b : Bool) (hb : (zeroEnd s).isSome = b) (w : World) : Calls Try.prog 59 #[.string ⟨s.toArray⟩] w fun e w' => e = .returned (.bool b) /\ Grown w w' := by
 subst hb; exact rzero_at s hs w
set_option maxRecDepth 100000 in
set_option maxHeartbeats 4000000 in
theorem rends_N00 (n : List UInt8) (lo hi : Int) (ha : ¬ ((-9223372036854775808) < lo)) (hb : ¬ (hi < 9223372036854775807)) (A : Option Addr) (m c : Nat) (w : World) :
  Calls Try.prog 39 #[.string ⟨n.toArray⟩, .agg #[.int .i64 1, .int .i64 lo, .int .i64 hi, .string ⟨#[]⟩, .string ⟨#[]⟩, .bool false, .slice A m c]] w (GivesQ w []) := by
 have d1 : decide ((-9223372036854775808) < lo) = false := decide_eq_false ha
 have d2 : decide (hi < 9223372036854775807) = false := decide_eq_false hb
 clear ha hb
 have X := Lib.hid (Blk.new w 29 #[.int .i64 1, .int .i64 lo, .int .i64 hi, .string ⟨#[]⟩, .string ⟨#[]⟩, .bool false, .slice A m c])
 have BB := Lib.hid (gr1 w (.cells #[.int .i64 1, .int .i64 lo, .int .i64 hi, .string ⟨#[]⟩, .string ⟨#[]⟩, .bool false, .slice A m c] 29)).below
 have O : Hid (OwnQ (w.alloc (.cells #[.int .i64 1, .int .i64 lo, .int .i64 hi, .string ⟨#[]⟩, .string ⟨#[]⟩, .bool false, .slice A m c] 29)) (w.heap.size + 1) (.slice none 0 0) []) := OwnK.none_ _ _
 go_enter Try.func39, Try.ntmps39
 skip
 obtain ⟨a0, a1, a2, a3, a4, a5, a6, _⟩ := blk7 X.out
 have hlX := X.out.lt
 go_wp2_with fail
 go_ret
 exact ⟨_, rfl, (show OwnK layP _ _ _ [] from O.out.less (Nat.le_succ w.heap.size)), BB.out⟩
set_option maxRecDepth 100000 in
set_option maxHeartbeats 4000000 in
theorem rends_N01 (n : List UInt8) (lo hi : Int) (ha : ¬ ((-9223372036854775808) < lo)) (hb : (hi < 9223372036854775807)) (A : Option Addr) (m c : Nat) (w : World) :
  Calls Try.prog 39 #[.string ⟨n.toArray⟩, .agg #[.int .i64 1, .int .i64 lo, .int .i64 hi, .string ⟨#[]⟩, .string ⟨#[]⟩, .bool false, .slice A m c]] w (GivesQ w [⟨n, 4, 1, hi, []⟩]) := by
 have d1 : decide ((-9223372036854775808) < lo) = false := decide_eq_false ha
 have d2 : decide (hi < 9223372036854775807) = true := decide_eq_true hb
 clear ha hb
 have X := Lib.hid (Blk.new w 29 #[.int .i64 1, .int .i64 lo, .int .i64 hi, .string ⟨#[]⟩, .string ⟨#[]⟩, .bool false, .slice A m c])
 have BB := Lib.hid (gr1 w (.cells #[.int .i64 1, .int .i64 lo, .int .i64 hi, .string ⟨#[]⟩, .string ⟨#[]⟩, .bool false, .slice A m c] 29)).below
 have O : Hid (OwnQ (w.alloc (.cells #[.int .i64 1, .int .i64 lo, .int .i64 hi, .string ⟨#[]⟩, .string ⟨#[]⟩, .bool false, .slice A m c] 29)) (w.heap.size + 1) (.slice none 0 0) []) := OwnK.none_ _ _
 go_enter Try.func39, Try.ntmps39
 skip
 obtain ⟨a0, a1, a2, a3, a4, a5, a6, _⟩ := blk7 X.out
 have hlX := X.out.lt
 have hrx1 := rdk_one layP (w.alloc (.cells #[.int .i64 1, .int .i64 lo, .int .i64 hi, .string ⟨#[]⟩, .string ⟨#[]⟩, .bool false, .slice A m c] 29)) ⟨n, 4, 1, hi, []⟩ 38 #[.string ⟨n.toArray⟩, .int .i64 4, .int .i64 1, .int .i64 hi, .string ⟨#[]⟩] rfl
 have hbx1 : Below (w.alloc (.cells #[.int .i64 1, .int .i64 lo, .int .i64 hi, .string ⟨#[]⟩, .string ⟨#[]⟩, .bool false, .slice A m c] 29)).heap.size (w.alloc (.cells #[.int .i64 1, .int .i64 lo, .int .i64 hi, .string ⟨#[]⟩, .string ⟨#[]⟩, .bool false, .slice A m c] 29)) ((w.alloc (.cells #[.int .i64 1, .int .i64 lo, .int .i64 hi, .string ⟨#[]⟩, .string ⟨#[]⟩, .bool false, .slice A m c] 29)).alloc (.cells #[.string ⟨n.toArray⟩, .int .i64 4, .int .i64 1, .int .i64 hi, .string ⟨#[]⟩] 38)) := (gr1 (w.alloc (.cells #[.int .i64 1, .int .i64 lo, .int .i64 hi, .string ⟨#[]⟩, .string ⟨#[]⟩, .bool false, .slice A m c] 29)) _).below
 have ho1 := OwnK.below O.out hbx1
 have hs1 : w.heap.size + 1 <= ((w.alloc (.cells #[.int .i64 1, .int .i64 lo, .int .i64 hi, .string ⟨#[]⟩, .string ⟨#[]⟩, .bool false, .slice A m c] 29)).alloc (.cells #[.string ⟨n.toArray⟩, .int .i64 4, .int .i64 1, .int .i64 hi, .string ⟨#[]⟩] 38)).heap.size := by have h1 := hbx1.size; have h2 := X.out.lt; omega
 have hbb1 : Below (w.heap.size + 1) (w.alloc (.cells #[.int .i64 1, .int .i64 lo, .int .i64 hi, .string ⟨#[]⟩, .string ⟨#[]⟩, .bool false, .slice A m c] 29)) ((w.alloc (.cells #[.int .i64 1, .int .i64 lo, .int .i64 hi, .string ⟨#[]⟩, .string ⟨#[]⟩, .bool false, .slice A m c] 29)).alloc (.cells #[.string ⟨n.toArray⟩, .int .i64 4, .int .i64 1, .int .i64 hi, .string ⟨#[]⟩] 38)) := hbx1.mono (by have h2 := X.out.lt; omega)
 rw [show (w.alloc (.cells #[.int .i64 1, .int .i64 lo, .int .i64 hi, .string ⟨#[]⟩, .string ⟨#[]⟩, .bool false, .slice A m c] 29)).heap.size = w.heap.size + 1 by simp] at hrx1
 go_wp2_with (first | (at_builtin; refine wpList_append_k layP (by rfl) (.tmp 30) (.tmp 36) 22 underQ rfl (w.heap.size + 1) _ ([]) (by rfl) ho1 _ [⟨n, 4, 1, hi, []⟩] 1 1 (by rfl) hrx1 rfl (by rw [maxLen_num]; show 0 + 1 <= _; omega) (by show (0 + 1) * 56 <= _; omega) hs1 ?_; intro v1 x1 o1 b1 g1 l1; have hB1 := b1 _ hbb1; have hX1 := Blk.below X.out hB1 (Nat.lt_succ_self _); obtain ⟨a0, a1, a2, a3, a4, a5, a6, _⟩ := blk7 hX1; have hlX := hX1.lt; clear hrx1 hs1 ho1 b1 g1 l1))
 replace X := Lib.hid hX1
 replace BB := Lib.hid (BB.out.trans (hB1.mono (Nat.le_succ _)))
 replace O := Lib.hid o1
 clear hX1 hB1 hbb1 hbx1 o1
 go_ret
 exact ⟨_, rfl, (show OwnK layP _ _ _ [⟨n, 4, 1, hi, []⟩] from O.out.less (Nat.le_succ w.heap.size)), BB.out⟩
set_option maxRecDepth 100000 in
set_option maxHeartbeats 4000000 in
theorem rends_N10 (n : List UInt8) (lo hi : Int) (ha : ((-9223372036854775808) < lo)) (hb : ¬ (hi < 9223372036854775807)) (A : Option Addr) (m c : Nat) (w : World) :
  Calls Try.prog 39 #[.string ⟨n.toArray⟩, .agg #[.int .i64 1, .int .i64 lo, .int .i64 hi, .string ⟨#[]⟩, .string ⟨#[]⟩, .bool false, .slice A m c]] w (GivesQ w [⟨n, 6, 1, lo, []⟩]) := by
 have d1 : decide ((-9223372036854775808) < lo) = true := decide_eq_true ha
 have d2 : decide (hi < 9223372036854775807) = false := decide_eq_false hb
 clear ha hb
 have X := Lib.hid (Blk.new w 29 #[.int .i64 1, .int .i64 lo, .int .i64 hi, .string ⟨#[]⟩, .string ⟨#[]⟩, .bool false, .slice A m c])
 have BB := Lib.hid (gr1 w (.cells #[.int .i64 1, .int .i64 lo, .int .i64 hi, .string ⟨#[]⟩, .string ⟨#[]⟩, .bool false, .slice A m c] 29)).below
 have O : Hid (OwnQ (w.alloc (.cells #[.int .i64 1, .int .i64 lo, .int .i64 hi, .string ⟨#[]⟩, .string ⟨#[]⟩, .bool false, .slice A m c] 29)) (w.heap.size + 1) (.slice none 0 0) []) := OwnK.none_ _ _
 go_enter Try.func39, Try.ntmps39
 skip
 obtain ⟨a0, a1, a2, a3, a4, a5, a6, _⟩ := blk7 X.out
 have hlX := X.out.lt
 have hrx1 := rdk_one layP (w.alloc (.cells #[.int .i64 1, .int .i64 lo, .int .i64 hi, .string ⟨#[]⟩, .string ⟨#[]⟩, .bool false, .slice A m c] 29)) ⟨n, 6, 1, lo, []⟩ 38 #[.string ⟨n.toArray⟩, .int .i64 6, .int .i64 1, .int .i64 lo, .string ⟨#[]⟩] rfl
 have hbx1 : Below (w.alloc (.cells #[.int .i64 1, .int .i64 lo, .int .i64 hi, .string ⟨#[]⟩, .string ⟨#[]⟩, .bool false, .slice A m c] 29)).heap.size (w.alloc (.cells #[.int .i64 1, .int .i64 lo, .int .i64 hi, .string ⟨#[]⟩, .string ⟨#[]⟩, .bool false, .slice A m c] 29)) ((w.alloc (.cells #[.int .i64 1, .int .i64 lo, .int .i64 hi, .string ⟨#[]⟩, .string ⟨#[]⟩, .bool false, .slice A m c] 29)).alloc (.cells #[.string ⟨n.toArray⟩, .int .i64 6, .int .i64 1, .int .i64 lo, .string ⟨#[]⟩] 38)) := (gr1 (w.alloc (.cells #[.int .i64 1, .int .i64 lo, .int .i64 hi, .string ⟨#[]⟩, .string ⟨#[]⟩, .bool false, .slice A m c] 29)) _).below
 have ho1 := OwnK.below O.out hbx1
 have hs1 : w.heap.size + 1 <= ((w.alloc (.cells #[.int .i64 1, .int .i64 lo, .int .i64 hi, .string ⟨#[]⟩, .string ⟨#[]⟩, .bool false, .slice A m c] 29)).alloc (.cells #[.string ⟨n.toArray⟩, .int .i64 6, .int .i64 1, .int .i64 lo, .string ⟨#[]⟩] 38)).heap.size := by have h1 := hbx1.size; have h2 := X.out.lt; omega
 have hbb1 : Below (w.heap.size + 1) (w.alloc (.cells #[.int .i64 1, .int .i64 lo, .int .i64 hi, .string ⟨#[]⟩, .string ⟨#[]⟩, .bool false, .slice A m c] 29)) ((w.alloc (.cells #[.int .i64 1, .int .i64 lo, .int .i64 hi, .string ⟨#[]⟩, .string ⟨#[]⟩, .bool false, .slice A m c] 29)).alloc (.cells #[.string ⟨n.toArray⟩, .int .i64 6, .int .i64 1, .int .i64 lo, .string ⟨#[]⟩] 38)) := hbx1.mono (by have h2 := X.out.lt; omega)
 rw [show (w.alloc (.cells #[.int .i64 1, .int .i64 lo, .int .i64 hi, .string ⟨#[]⟩, .string ⟨#[]⟩, .bool false, .slice A m c] 29)).heap.size = w.heap.size + 1 by simp] at hrx1
 go_wp2_with (first | (at_builtin; refine wpList_append_k layP (by rfl) (.tmp 14) (.tmp 20) 22 underQ rfl (w.heap.size + 1) _ ([]) (by rfl) ho1 _ [⟨n, 6, 1, lo, []⟩] 1 1 (by rfl) hrx1 rfl (by rw [maxLen_num]; show 0 + 1 <= _; omega) (by show (0 + 1) * 56 <= _; omega) hs1 ?_; intro v1 x1 o1 b1 g1 l1; have hB1 := b1 _ hbb1; have hX1 := Blk.below X.out hB1 (Nat.lt_succ_self _); obtain ⟨a0, a1, a2, a3, a4, a5, a6, _⟩ := blk7 hX1; have hlX := hX1.lt; clear hrx1 hs1 ho1 b1 g1 l1))
 replace X := Lib.hid hX1
 replace BB := Lib.hid (BB.out.trans (hB1.mono (Nat.le_succ _)))
 replace O := Lib.hid o1
 clear hX1 hB1 hbb1 hbx1 o1
 go_ret
 exact ⟨_, rfl, (show OwnK layP _ _ _ [⟨n, 6, 1, lo, []⟩] from O.out.less (Nat.le_succ w.heap.size)), BB.out⟩
set_option maxRecDepth 100000 in
set_option maxHeartbeats 4000000 in
theorem rends_N11 (n : List UInt8) (lo hi : Int) (ha : ((-9223372036854775808) < lo)) (hb : (hi < 9223372036854775807)) (A : Option Addr) (m c : Nat) (w : World) :
  Calls Try.prog 39 #[.string ⟨n.toArray⟩, .agg #[.int .i64 1, .int .i64 lo, .int .i64 hi, .string ⟨#[]⟩, .string ⟨#[]⟩, .bool false, .slice A m c]] w (GivesQ w [⟨n, 6, 1, lo, []⟩, ⟨n, 4, 1, hi, []⟩]) := by
 have d1 : decide ((-9223372036854775808) < lo) = true := decide_eq_true ha
 have d2 : decide (hi < 9223372036854775807) = true := decide_eq_true hb
 clear ha hb
 have X := Lib.hid (Blk.new w 29 #[.int .i64 1, .int .i64 lo, .int .i64 hi, .string ⟨#[]⟩, .string ⟨#[]⟩, .bool false, .slice A m c])
 have BB := Lib.hid (gr1 w (.cells #[.int .i64 1, .int .i64 lo, .int .i64 hi, .string ⟨#[]⟩, .string ⟨#[]⟩, .bool false, .slice A m c] 29)).below
 have O : Hid (OwnQ (w.alloc (.cells #[.int .i64 1, .int .i64 lo, .int .i64 hi, .string ⟨#[]⟩, .string ⟨#[]⟩, .bool false, .slice A m c] 29)) (w.heap.size + 1) (.slice none 0 0) []) := OwnK.none_ _ _
 go_enter Try.func39, Try.ntmps39
 skip
 obtain ⟨a0, a1, a2, a3, a4, a5, a6, _⟩ := blk7 X.out
 have hlX := X.out.lt
 have hrx1 := rdk_one layP (w.alloc (.cells #[.int .i64 1, .int .i64 lo, .int .i64 hi, .string ⟨#[]⟩, .string ⟨#[]⟩, .bool false, .slice A m c] 29)) ⟨n, 6, 1, lo, []⟩ 38 #[.string ⟨n.toArray⟩, .int .i64 6, .int .i64 1, .int .i64 lo, .string ⟨#[]⟩] rfl
 have hbx1 : Below (w.alloc (.cells #[.int .i64 1, .int .i64 lo, .int .i64 hi, .string ⟨#[]⟩, .string ⟨#[]⟩, .bool false, .slice A m c] 29)).heap.size (w.alloc (.cells #[.int .i64 1, .int .i64 lo, .int .i64 hi, .string ⟨#[]⟩, .string ⟨#[]⟩, .bool false, .slice A m c] 29)) ((w.alloc (.cells #[.int .i64 1, .int .i64 lo, .int .i64 hi, .string ⟨#[]⟩, .string ⟨#[]⟩, .bool false, .slice A m c] 29)).alloc (.cells #[.string ⟨n.toArray⟩, .int .i64 6, .int .i64 1, .int .i64 lo, .string ⟨#[]⟩] 38)) := (gr1 (w.alloc (.cells #[.int .i64 1, .int .i64 lo, .int .i64 hi, .string ⟨#[]⟩, .string ⟨#[]⟩, .bool false, .slice A m c] 29)) _).below
 have ho1 := OwnK.below O.out hbx1
 have hs1 : w.heap.size + 1 <= ((w.alloc (.cells #[.int .i64 1, .int .i64 lo, .int .i64 hi, .string ⟨#[]⟩, .string ⟨#[]⟩, .bool false, .slice A m c] 29)).alloc (.cells #[.string ⟨n.toArray⟩, .int .i64 6, .int .i64 1, .int .i64 lo, .string ⟨#[]⟩] 38)).heap.size := by have h1 := hbx1.size; have h2 := X.out.lt; omega
 have hbb1 : Below (w.heap.size + 1) (w.alloc (.cells #[.int .i64 1, .int .i64 lo, .int .i64 hi, .string ⟨#[]⟩, .string ⟨#[]⟩, .bool false, .slice A m c] 29)) ((w.alloc (.cells #[.int .i64 1, .int .i64 lo, .int .i64 hi, .string ⟨#[]⟩, .string ⟨#[]⟩, .bool false, .slice A m c] 29)).alloc (.cells #[.string ⟨n.toArray⟩, .int .i64 6, .int .i64 1, .int .i64 lo, .string ⟨#[]⟩] 38)) := hbx1.mono (by have h2 := X.out.lt; omega)
 rw [show (w.alloc (.cells #[.int .i64 1, .int .i64 lo, .int .i64 hi, .string ⟨#[]⟩, .string ⟨#[]⟩, .bool false, .slice A m c] 29)).heap.size = w.heap.size + 1 by simp] at hrx1
 go_wp2_with (first | (at_builtin; refine wpList_append_k layP (by rfl) (.tmp 14) (.tmp 20) 22 underQ rfl (w.heap.size + 1) _ ([]) (by rfl) ho1 _ [⟨n, 6, 1, lo, []⟩] 1 1 (by rfl) hrx1 rfl (by rw [maxLen_num]; show 0 + 1 <= _; omega) (by show (0 + 1) * 56 <= _; omega) hs1 ?_; intro v1 x1 o1 b1 g1 l1; have hB1 := b1 _ hbb1; have hX1 := Blk.below X.out hB1 (Nat.lt_succ_self _); obtain ⟨a0, a1, a2, a3, a4, a5, a6, _⟩ := blk7 hX1; have hlX := hX1.lt; clear hrx1 hs1 ho1 b1 g1 l1; have hrx2 := rdk_one layP x1 ⟨n, 4, 1, hi, []⟩ 38 #[.string ⟨n.toArray⟩, .int .i64 4, .int .i64 1, .int .i64 hi, .string ⟨#[]⟩] rfl; have hbx2 : Below x1.heap.size x1 (x1.alloc (.cells #[.string ⟨n.toArray⟩, .int .i64 4, .int .i64 1, .int .i64 hi, .string ⟨#[]⟩] 38)) := (gr1 x1 _).below; have ho2 := OwnK.below o1 hbx2; have hs2 : w.heap.size + 1 <= (x1.alloc (.cells #[.string ⟨n.toArray⟩, .int .i64 4, .int .i64 1, .int .i64 hi, .string ⟨#[]⟩] 38)).heap.size := (by have h1 := hbx2.size; have h2 := hX1.lt; omega); have hbb2 : Below (w.heap.size + 1) x1 (x1.alloc (.cells #[.string ⟨n.toArray⟩, .int .i64 4, .int .i64 1, .int .i64 hi, .string ⟨#[]⟩] 38)) := hbx2.mono (by have h2 := hX1.lt; omega)) | (at_builtin; refine wpList_append_k layP (by rfl) (.tmp 30) (.tmp 36) 22 underQ rfl (w.heap.size + 1) _ ([] ++ [⟨n, 6, 1, lo, []⟩]) (by rfl) ho2 _ [⟨n, 4, 1, hi, []⟩] 1 1 (by rfl) hrx2 rfl (by rw [maxLen_num]; show 1 + 1 <= _; omega) (by show (1 + 1) * 56 <= _; omega) hs2 ?_; intro v2 x2 o2 b2 g2 l2; have hB2 := b2 _ hbb2; have hX2 := Blk.below hX1 hB2 (Nat.lt_succ_self _); obtain ⟨a0, a1, a2, a3, a4, a5, a6, _⟩ := blk7 hX2; have hlX := hX2.lt; clear hrx2 hs2 ho2 b2 g2 l2))
 replace X := Lib.hid hX2
 replace BB := Lib.hid ((BB.out.trans (hB1.mono (Nat.le_succ _))).trans (hB2.mono (Nat.le_succ _)))
 replace O := Lib.hid o2
 go_ret
 exact ⟨_, rfl, (show OwnK layP _ _ _ [⟨n, 6, 1, lo, []⟩, ⟨n, 4, 1, hi, []⟩] from O.out.less (Nat.le_succ w.heap.size)), BB.out⟩
set_option maxRecDepth 100000 in
set_option maxHeartbeats 4000000 in
theorem rends_3 (n : List UInt8) (lo hi : Int) (A : Option Addr) (m c : Nat) (w : World) :
  Calls Try.prog 39 #[.string ⟨n.toArray⟩, .agg #[.int .i64 3, .int .i64 lo, .int .i64 hi, .string ⟨#[]⟩, .string ⟨#[]⟩, .bool false, .slice A m c]] w (GivesQ w []) := by
 have X := Lib.hid (Blk.new w 29 #[.int .i64 3, .int .i64 lo, .int .i64 hi, .string ⟨#[]⟩, .string ⟨#[]⟩, .bool false, .slice A m c])
 have BB := Lib.hid (gr1 w (.cells #[.int .i64 3, .int .i64 lo, .int .i64 hi, .string ⟨#[]⟩, .string ⟨#[]⟩, .bool false, .slice A m c] 29)).below
 have O : Hid (OwnQ (w.alloc (.cells #[.int .i64 3, .int .i64 lo, .int .i64 hi, .string ⟨#[]⟩, .string ⟨#[]⟩, .bool false, .slice A m c] 29)) (w.heap.size + 1) (.slice none 0 0) []) := OwnK.none_ _ _
 go_enter Try.func39, Try.ntmps39
 skip
 obtain ⟨a0, a1, a2, a3, a4, a5, a6, _⟩ := blk7 X.out
 have hlX := X.out.lt
 go_wp2_with fail
 go_ret
 exact ⟨_, rfl, (show OwnK layP _ _ _ [] from O.out.less (Nat.le_succ w.heap.size)), BB.out⟩
set_option maxRecDepth 100000 in
set_option maxHeartbeats 4000000 in
theorem rends_ZO (n : List UInt8) (u : List UInt8) (hu : u.length <= 100) (A : Option Addr) (m c : Nat) (w : World) :
  Calls Try.prog 39 #[.string ⟨n.toArray⟩, .agg #[.int .i64 2, .int .i64 0, .int .i64 0, .string ⟨(u ++ [0]).toArray⟩, .string ⟨#[]⟩, .bool true, .slice A m c]] w (GivesQ w [⟨n, 5, 2, 0, u⟩]) := by
 have e1 := ext_init u 0
 have e2 : (⟨(u ++ [0]).toArray⟩ : ByteArray).size = u.length + 1 := by simp [ByteArray.size]
 have HZU : Hid ((zeroEnd (u ++ [0])).isSome = true) := by show _ = _; rw [(zeroEnd_iff _ u).2 rfl]; rfl
 have X := Lib.hid (Blk.new w 29 #[.int .i64 2, .int .i64 0, .int .i64 0, .string ⟨(u ++ [0]).toArray⟩, .string ⟨#[]⟩, .bool true, .slice A m c])
 have BB := Lib.hid (gr1 w (.cells #[.int .i64 2, .int .i64 0, .int .i64 0, .string ⟨(u ++ [0]).toArray⟩, .string ⟨#[]⟩, .bool true, .slice A m c] 29)).below
 have O : Hid (OwnQ (w.alloc (.cells #[.int .i64 2, .int .i64 0, .int .i64 0, .string ⟨(u ++ [0]).toArray⟩, .string ⟨#[]⟩, .bool true, .slice A m c] 29)) (w.heap.size + 1) (.slice none 0 0) []) := OwnK.none_ _ _
 go_enter Try.func39, Try.ntmps39
 skip
 obtain ⟨a0, a1, a2, a3, a4, a5, a6, _⟩ := blk7 X.out
 have hlX := X.out.lt
 go_wp2_with fail
 refine (rzero_is (u ++ [0]) (by simp; omega) true HZU.out _).mono ?_
 rintro e y1 ⟨rfl, hg⟩
 replace O := Lib.hid (OwnK.below O.out hg.below)
 replace BB := Lib.hid (below_next BB.out (Nat.le_refl _) hg.below)
 replace X := Lib.hid (Blk.below X.out hg.below X.out.lt)
 clear hg
 obtain ⟨a0, a1, a2, a3, a4, a5, a6, _⟩ := blk7 X.out
 have hlX := X.out.lt
 have hrx1 := rdk_one layP y1 ⟨n, 5, 2, 0, u⟩ 38 #[.string ⟨n.toArray⟩, .int .i64 5, .int .i64 2, .int .i64 0, .string ⟨u.toArray⟩] rfl
 have hbx1 : Below y1.heap.size y1 (y1.alloc (.cells #[.string ⟨n.toArray⟩, .int .i64 5, .int .i64 2, .int .i64 0, .string ⟨u.toArray⟩] 38)) := (gr1 y1 _).below
 have ho1 := OwnK.below O.out hbx1
 have hs1 : w.heap.size + 1 <= (y1.alloc (.cells #[.string ⟨n.toArray⟩, .int .i64 5, .int .i64 2, .int .i64 0, .string ⟨u.toArray⟩] 38)).heap.size := by have h1 := hbx1.size; have h2 := X.out.lt; omega
 have hbb1 : Below (w.heap.size + 1) y1 (y1.alloc (.cells #[.string ⟨n.toArray⟩, .int .i64 5, .int .i64 2, .int .i64 0, .string ⟨u.toArray⟩] 38)) := hbx1.mono (by have h2 := X.out.lt; omega)
 go_wp2_with (first | (at_builtin; refine wpList_append_k layP (by rfl) (.tmp 46) (.tmp 57) 22 underQ rfl (w.heap.size + 1) _ ([]) (by rfl) ho1 _ [⟨n, 5, 2, 0, u⟩] 1 1 (by rfl) hrx1 rfl (by rw [maxLen_num]; show 0 + 1 <= _; omega) (by show (0 + 1) * 56 <= _; omega) hs1 ?_; intro v1 x1 o1 b1 g1 l1; have hB1 := b1 _ hbb1; have hX1 := Blk.below X.out hB1 (Nat.lt_succ_self _); obtain ⟨a0, a1, a2, a3, a4, a5, a6, _⟩ := blk7 hX1; have hlX := hX1.lt; clear hrx1 hs1 ho1 b1 g1 l1))
 replace X := Lib.hid hX1
 replace BB := Lib.hid (BB.out.trans (hB1.mono (Nat.le_succ _)))
 replace O := Lib.hid o1
 clear hX1 hB1 hbb1 hbx1 o1
 go_ret
 exact ⟨_, rfl, (show OwnK layP _ _ _ [⟨n, 5, 2, 0, u⟩] from O.out.less (Nat.le_succ w.heap.size)), BB.out⟩
set_option maxRecDepth 100000 in
set_option maxHeartbeats 4000000 in
theorem rends_ZZ (n : List UInt8) (u : List UInt8) (hu : u.length <= 100) (x : List UInt8) (hx : x.length <= 100) (A : Option Addr) (m c : Nat) (w : World) :
  Calls Try.prog 39 #[.string ⟨n.toArray⟩, .agg #[.int .i64 2, .int .i64 0, .int .i64 0, .string ⟨(u ++ [0]).toArray⟩, .string ⟨(x ++ [0]).toArray⟩, .bool false, .slice A m c]] w (GivesQ w [⟨n, 5, 2, 0, u⟩, ⟨n, 4, 2, 0, x⟩]) := by
 have e1 := ext_init u 0
 have e2 : (⟨(u ++ [0]).toArray⟩ : ByteArray).size = u.length + 1 := by simp [ByteArray.size]
 have HZU : Hid ((zeroEnd (u ++ [0])).isSome = true) := by show _ = _; rw [(zeroEnd_iff _ u).2 rfl]; rfl
 have e3 := ext_init x 0
 have e4 : (⟨(x ++ [0]).toArray⟩ : ByteArray).size = x.length + 1 := by simp [ByteArray.size]
 have HZX : Hid ((zeroEnd (x ++ [0])).isSome = true) := by show _ = _; rw [(zeroEnd_iff _ x).2 rfl]; rfl
 have X := Lib.hid (Blk.new w 29 #[.int .i64 2, .int .i64 0, .int .i64 0, .string ⟨(u ++ [0]).toArray⟩, .string ⟨(x ++ [0]).toArray⟩, .bool false, .slice A m c])
 have BB := Lib.hid (gr1 w (.cells #[.int .i64 2, .int .i64 0, .int .i64 0, .string ⟨(u ++ [0]).toArray⟩, .string ⟨(x ++ [0]).toArray⟩, .bool false, .slice A m c] 29)).below
 have O : Hid (OwnQ (w.alloc (.cells #[.int .i64 2, .int .i64 0, .int .i64 0, .string ⟨(u ++ [0]).toArray⟩, .string ⟨(x ++ [0]).toArray⟩, .bool false, .slice A m c] 29)) (w.heap.size + 1) (.slice none 0 0) []) := OwnK.none_ _ _
 go_enter Try.func39, Try.ntmps39
 skip
 obtain ⟨a0, a1, a2, a3, a4, a5, a6, _⟩ := blk7 X.out
 have hlX := X.out.lt
 go_wp2_with fail
 refine (rzero_is (u ++ [0]) (by simp; omega) true HZU.out _).mono ?_
 rintro e y1 ⟨rfl, hg⟩
 replace O := Lib.hid (OwnK.below O.out hg.below)
 replace BB := Lib.hid (below_next BB.out (Nat.le_refl _) hg.below)
 replace X := Lib.hid (Blk.below X.out hg.below X.out.lt)
 clear hg
 obtain ⟨a0, a1, a2, a3, a4, a5, a6, _⟩ := blk7 X.out
 have hlX := X.out.lt
 have hrx1 := rdk_one layP y1 ⟨n, 5, 2, 0, u⟩ 38 #[.string ⟨n.toArray⟩, .int .i64 5, .int .i64 2, .int .i64 0, .string ⟨u.toArray⟩] rfl
 have hbx1 : Below y1.heap.size y1 (y1.alloc (.cells #[.string ⟨n.toArray⟩, .int .i64 5, .int .i64 2, .int .i64 0, .string ⟨u.toArray⟩] 38)) := (gr1 y1 _).below
 have ho1 := OwnK.below O.out hbx1
 have hs1 : w.heap.size + 1 <= (y1.alloc (.cells #[.string ⟨n.toArray⟩, .int .i64 5, .int .i64 2, .int .i64 0, .string ⟨u.toArray⟩] 38)).heap.size := by have h1 := hbx1.size; have h2 := X.out.lt; omega
 have hbb1 : Below (w.heap.size + 1) y1 (y1.alloc (.cells #[.string ⟨n.toArray⟩, .int .i64 5, .int .i64 2, .int .i64 0, .string ⟨u.toArray⟩] 38)) := hbx1.mono (by have h2 := X.out.lt; omega)
 go_wp2_with (first | (at_builtin; refine wpList_append_k layP (by rfl) (.tmp 46) (.tmp 57) 22 underQ rfl (w.heap.size + 1) _ ([]) (by rfl) ho1 _ [⟨n, 5, 2, 0, u⟩] 1 1 (by rfl) hrx1 rfl (by rw [maxLen_num]; show 0 + 1 <= _; omega) (by show (0 + 1) * 56 <= _; omega) hs1 ?_; intro v1 x1 o1 b1 g1 l1; have hB1 := b1 _ hbb1; have hX1 := Blk.below X.out hB1 (Nat.lt_succ_self _); obtain ⟨a0, a1, a2, a3, a4, a5, a6, _⟩ := blk7 hX1; have hlX := hX1.lt; clear hrx1 hs1 ho1 b1 g1 l1))
 replace X := Lib.hid hX1
 replace BB := Lib.hid (BB.out.trans (hB1.mono (Nat.le_succ _)))
 replace O := Lib.hid o1
 clear hX1 hB1 hbb1 hbx1 o1
 refine (rzero_is (x ++ [0]) (by simp; omega) true HZX.out _).mono ?_
 rintro e y2 ⟨rfl, hg⟩
 replace O := Lib.hid (OwnK.below O.out hg.below)
 replace BB := Lib.hid (below_next BB.out (Nat.le_refl _) hg.below)
 replace X := Lib.hid (Blk.below X.out hg.below X.out.lt)
 clear hg
 obtain ⟨a0, a1, a2, a3, a4, a5, a6, _⟩ := blk7 X.out
 have hlX := X.out.lt
 have hrx2 := rdk_one layP y2 ⟨n, 4, 2, 0, x⟩ 38 #[.string ⟨n.toArray⟩, .int .i64 4, .int .i64 2, .int .i64 0, .string ⟨x.toArray⟩] rfl
 have hbx2 : Below y2.heap.size y2 (y2.alloc (.cells #[.string ⟨n.toArray⟩, .int .i64 4, .int .i64 2, .int .i64 0, .string ⟨x.toArray⟩] 38)) := (gr1 y2 _).below
 have ho2 := OwnK.below O.out hbx2
 have hs2 : w.heap.size + 1 <= (y2.alloc (.cells #[.string ⟨n.toArray⟩, .int .i64 4, .int .i64 2, .int .i64 0, .string ⟨x.toArray⟩] 38)).heap.size := by have h1 := hbx2.size; have h2 := X.out.lt; omega
 have hbb2 : Below (w.heap.size + 1) y2 (y2.alloc (.cells #[.string ⟨n.toArray⟩, .int .i64 4, .int .i64 2, .int .i64 0, .string ⟨x.toArray⟩] 38)) := hbx2.mono (by have h2 := X.out.lt; omega)
 go_wp2_with (first | (at_builtin; refine wpList_append_k layP (by rfl) (.tmp 88) (.tmp 99) 22 underQ rfl (w.heap.size + 1) _ ([] ++ [⟨n, 5, 2, 0, u⟩]) (by rfl) ho2 _ [⟨n, 4, 2, 0, x⟩] 1 1 (by rfl) hrx2 rfl (by rw [maxLen_num]; show 1 + 1 <= _; omega) (by show (1 + 1) * 56 <= _; omega) hs2 ?_; intro v2 x2 o2 b2 g2 l2; have hB2 := b2 _ hbb2; have hX2 := Blk.below X.out hB2 (Nat.lt_succ_self _); obtain ⟨a0, a1, a2, a3, a4, a5, a6, _⟩ := blk7 hX2; have hlX := hX2.lt; clear hrx2 hs2 ho2 b2 g2 l2))
 replace X := Lib.hid hX2
 replace BB := Lib.hid (BB.out.trans (hB2.mono (Nat.le_succ _)))
 replace O := Lib.hid o2
 clear hX2 hB2 hbb2 hbx2 o2
 go_ret
 exact ⟨_, rfl, (show OwnK layP _ _ _ [⟨n, 5, 2, 0, u⟩, ⟨n, 4, 2, 0, x⟩] from O.out.less (Nat.le_succ w.heap.size)), BB.out⟩
set_option maxRecDepth 100000 in
set_option maxHeartbeats 4000000 in
theorem rends_ZN (n : List UInt8) (u : List UInt8) (hu : u.length <= 100) (t : List UInt8) (ht : t.length <= 100) (htz : zeroEnd t = none) (A : Option Addr) (m c : Nat) (w : World) :
  Calls Try.prog 39 #[.string ⟨n.toArray⟩, .agg #[.int .i64 2, .int .i64 0, .int .i64 0, .string ⟨(u ++ [0]).toArray⟩, .string ⟨t.toArray⟩, .bool false, .slice A m c]] w (GivesQ w [⟨n, 5, 2, 0, u⟩, ⟨n, 3, 2, 0, t⟩]) := by
 have e1 := ext_init u 0
 have e2 : (⟨(u ++ [0]).toArray⟩ : ByteArray).size = u.length + 1 := by simp [ByteArray.size]
 have HZU : Hid ((zeroEnd (u ++ [0])).isSome = true) := by show _ = _; rw [(zeroEnd_iff _ u).2 rfl]; rfl
 have HZX : Hid ((zeroEnd t).isSome = false) := by show _ = _; rw [htz]; rfl
 clear htz
 have X := Lib.hid (Blk.new w 29 #[.int .i64 2, .int .i64 0, .int .i64 0, .string ⟨(u ++ [0]).toArray⟩, .string ⟨t.toArray⟩, .bool false, .slice A m c])
 have BB := Lib.hid (gr1 w (.cells #[.int .i64 2, .int .i64 0, .int .i64 0, .string ⟨(u ++ [0]).toArray⟩, .string ⟨t.toArray⟩, .bool false, .slice A m c] 29)).below
 have O : Hid (OwnQ (w.alloc (.cells #[.int .i64 2, .int .i64 0, .int .i64 0, .string ⟨(u ++ [0]).toArray⟩, .string ⟨t.toArray⟩, .bool false, .slice A m c] 29)) (w.heap.size + 1) (.slice none 0 0) []) := OwnK.none_ _ _
 go_enter Try.func39, Try.ntmps39
 skip
 obtain ⟨a0, a1, a2, a3, a4, a5, a6, _⟩ := blk7 X.out
 have hlX := X.out.lt
 go_wp2_with fail
 refine (rzero_is (u ++ [0]) (by simp; omega) true HZU.out _).mono ?_
 rintro e y1 ⟨rfl, hg⟩
 replace O := Lib.hid (OwnK.below O.out hg.below)
 replace BB := Lib.hid (below_next BB.out (Nat.le_refl _) hg.below)
 replace X := Lib.hid (Blk.below X.out hg.below X.out.lt)
 clear hg
 obtain ⟨a0, a1, a2, a3, a4, a5, a6, _⟩ := blk7 X.out
 have hlX := X.out.lt
 have hrx1 := rdk_one layP y1 ⟨n, 5, 2, 0, u⟩ 38 #[.string ⟨n.toArray⟩, .int .i64 5, .int .i64 2, .int .i64 0, .string ⟨u.toArray⟩] rfl
 have hbx1 : Below y1.heap.size y1 (y1.alloc (.cells #[.string ⟨n.toArray⟩, .int .i64 5, .int .i64 2, .int .i64 0, .string ⟨u.toArray⟩] 38)) := (gr1 y1 _).below
 have ho1 := OwnK.below O.out hbx1
 have hs1 : w.heap.size + 1 <= (y1.alloc (.cells #[.string ⟨n.toArray⟩, .int .i64 5, .int .i64 2, .int .i64 0, .string ⟨u.toArray⟩] 38)).heap.size := by have h1 := hbx1.size; have h2 := X.out.lt; omega
 have hbb1 : Below (w.heap.size + 1) y1 (y1.alloc (.cells #[.string ⟨n.toArray⟩, .int .i64 5, .int .i64 2, .int .i64 0, .string ⟨u.toArray⟩] 38)) := hbx1.mono (by have h2 := X.out.lt; omega)
 go_wp2_with (first | (at_builtin; refine wpList_append_k layP (by rfl) (.tmp 46) (.tmp 57) 22 underQ rfl (w.heap.size + 1) _ ([]) (by rfl) ho1 _ [⟨n, 5, 2, 0, u⟩] 1 1 (by rfl) hrx1 rfl (by rw [maxLen_num]; show 0 + 1 <= _; omega) (by show (0 + 1) * 56 <= _; omega) hs1 ?_; intro v1 x1 o1 b1 g1 l1; have hB1 := b1 _ hbb1; have hX1 := Blk.below X.out hB1 (Nat.lt_succ_self _); obtain ⟨a0, a1, a2, a3, a4, a5, a6, _⟩ := blk7 hX1; have hlX := hX1.lt; clear hrx1 hs1 ho1 b1 g1 l1))
 replace X := Lib.hid hX1
 replace BB := Lib.hid (BB.out.trans (hB1.mono (Nat.le_succ _)))
 replace O := Lib.hid o1
 clear hX1 hB1 hbb1 hbx1 o1
 refine (rzero_is t (by omega) false HZX.out _).mono ?_
 rintro e y2 ⟨rfl, hg⟩
 replace O := Lib.hid (OwnK.below O.out hg.below)
 replace BB := Lib.hid (below_next BB.out (Nat.le_refl _) hg.below)
 replace X := Lib.hid (Blk.below X.out hg.below X.out.lt)
 clear hg
 obtain ⟨a0, a1, a2, a3, a4, a5, a6, _⟩ := blk7 X.out
 have hlX := X.out.lt
 have hrx2 := rdk_one layP y2 ⟨n, 3, 2, 0, t⟩ 38 #[.string ⟨n.toArray⟩, .int .i64 3, .int .i64 2, .int .i64 0, .string ⟨t.toArray⟩] rfl
 have hbx2 : Below y2.heap.size y2 (y2.alloc (.cells #[.string ⟨n.toArray⟩, .int .i64 3, .int .i64 2, .int .i64 0, .string ⟨t.toArray⟩] 38)) := (gr1 y2 _).below
 have ho2 := OwnK.below O.out hbx2
 have hs2 : w.heap.size + 1 <= (y2.alloc (.cells #[.string ⟨n.toArray⟩, .int .i64 3, .int .i64 2, .int .i64 0, .string ⟨t.toArray⟩] 38)).heap.size := by have h1 := hbx2.size; have h2 := X.out.lt; omega
 have hbb2 : Below (w.heap.size + 1) y2 (y2.alloc (.cells #[.string ⟨n.toArray⟩, .int .i64 3, .int .i64 2, .int .i64 0, .string ⟨t.toArray⟩] 38)) := hbx2.mono (by have h2 := X.out.lt; omega)
 go_wp2_with (first | (at_builtin; refine wpList_append_k layP (by rfl) (.tmp 109) (.tmp 115) 22 underQ rfl (w.heap.size + 1) _ ([] ++ [⟨n, 5, 2, 0, u⟩]) (by rfl) ho2 _ [⟨n, 3, 2, 0, t⟩] 1 1 (by rfl) hrx2 rfl (by rw [maxLen_num]; show 1 + 1 <= _; omega) (by show (1 + 1) * 56 <= _; omega) hs2 ?_; intro v2 x2 o2 b2 g2 l2; have hB2 := b2 _ hbb2; have hX2 := Blk.below X.out hB2 (Nat.lt_succ_self _); obtain ⟨a0, a1, a2, a3, a4, a5, a6, _⟩ := blk7 hX2; have hlX := hX2.lt; clear hrx2 hs2 ho2 b2 g2 l2))
 replace X := Lib.hid hX2
 replace BB := Lib.hid (BB.out.trans (hB2.mono (Nat.le_succ _)))
 replace O := Lib.hid o2
 clear hX2 hB2 hbb2 hbx2 o2
 go_ret
 exact ⟨_, rfl, (show OwnK layP _ _ _ [⟨n, 5, 2, 0, u⟩, ⟨n, 3, 2, 0, t⟩] from O.out.less (Nat.le_succ w.heap.size)), BB.out⟩
set_option maxRecDepth 100000 in
set_option maxHeartbeats 4000000 in
theorem rends_EO (n : List UInt8) (A : Option Addr) (m c : Nat) (w : World) :
  Calls Try.prog 39 #[.string ⟨n.toArray⟩, .agg #[.int .i64 2, .int .i64 0, .int .i64 0, .string ⟨#[]⟩, .string ⟨#[]⟩, .bool true, .slice A m c]] w (GivesQ w []) := by
 have X := Lib.hid (Blk.new w 29 #[.int .i64 2, .int .i64 0, .int .i64 0, .string ⟨#[]⟩, .string ⟨#[]⟩, .bool true, .slice A m c])
 have BB := Lib.hid (gr1 w (.cells #[.int .i64 2, .int .i64 0, .int .i64 0, .string ⟨#[]⟩, .string ⟨#[]⟩, .bool true, .slice A m c] 29)).below
 have O : Hid (OwnQ (w.alloc (.cells #[.int .i64 2, .int .i64 0, .int .i64 0, .string ⟨#[]⟩, .string ⟨#[]⟩, .bool true, .slice A m c] 29)) (w.heap.size + 1) (.slice none 0 0) []) := OwnK.none_ _ _
 go_enter Try.func39, Try.ntmps39
 skip
 obtain ⟨a0, a1, a2, a3, a4, a5, a6, _⟩ := blk7 X.out
 have hlX := X.out.lt
 go_wp2_with fail
 refine (rzero_is [] (by simp) false rfl _).mono ?_
 rintro e y1 ⟨rfl, hg⟩
 replace O := Lib.hid (OwnK.below O.out hg.below)
 replace BB := Lib.hid (below_next BB.out (Nat.le_refl _) hg.below)
 replace X := Lib.hid (Blk.below X.out hg.below X.out.lt)
 clear hg
 obtain ⟨a0, a1, a2, a3, a4, a5, a6, _⟩ := blk7 X.out
 have hlX := X.out.lt
 go_wp2_with fail
 go_ret
 exact ⟨_, rfl, (show OwnK layP _ _ _ [] from O.out.less (Nat.le_succ w.heap.size)), BB.out⟩
set_option maxRecDepth 100000 in
set_option maxHeartbeats 4000000 in
theorem rends_EZ (n : List UInt8) (x : List UInt8) (hx : x.length <= 100) (A : Option Addr) (m c : Nat) (w : World) :
  Calls Try.prog 39 #[.string ⟨n.toArray⟩, .agg #[.int .i64 2, .int .i64 0, .int .i64 0, .string ⟨#[]⟩, .string ⟨(x ++ [0]).toArray⟩, .bool false, .slice A m c]] w (GivesQ w [⟨n, 4, 2, 0, x⟩]) := by
 have e3 := ext_init x 0
 have e4 : (⟨(x ++ [0]).toArray⟩ : ByteArray).size = x.length + 1 := by simp [ByteArray.size]
 have HZX : Hid ((zeroEnd (x ++ [0])).isSome = true) := by show _ = _; rw [(zeroEnd_iff _ x).2 rfl]; rfl
 have X := Lib.hid (Blk.new w 29 #[.int .i64 2, .int .i64 0, .int .i64 0, .string ⟨#[]⟩, .string ⟨(x ++ [0]).toArray⟩, .bool false, .slice A m c])
 have BB := Lib.hid (gr1 w (.cells #[.int .i64 2, .int .i64 0, .int .i64 0, .string ⟨#[]⟩, .string ⟨(x ++ [0]).toArray⟩, .bool false, .slice A m c] 29)).below
 have O : Hid (OwnQ (w.alloc (.cells #[.int .i64 2, .int .i64 0, .int .i64 0, .string ⟨#[]⟩, .string ⟨(x ++ [0]).toArray⟩, .bool false, .slice A m c] 29)) (w.heap.size + 1) (.slice none 0 0) []) := OwnK.none_ _ _
 go_enter Try.func39, Try.ntmps39
 skip
 obtain ⟨a0, a1, a2, a3, a4, a5, a6, _⟩ := blk7 X.out
 have hlX := X.out.lt
 go_wp2_with fail
 refine (rzero_is [] (by simp) false rfl _).mono ?_
 rintro e y1 ⟨rfl, hg⟩
 replace O := Lib.hid (OwnK.below O.out hg.below)
 replace BB := Lib.hid (below_next BB.out (Nat.le_refl _) hg.below)
 replace X := Lib.hid (Blk.below X.out hg.below X.out.lt)
 clear hg
 obtain ⟨a0, a1, a2, a3, a4, a5, a6, _⟩ := blk7 X.out
 have hlX := X.out.lt
 go_wp2_with fail
 refine (rzero_is (x ++ [0]) (by simp; omega) true HZX.out _).mono ?_
 rintro e y2 ⟨rfl, hg⟩
 replace O := Lib.hid (OwnK.below O.out hg.below)
 replace BB := Lib.hid (below_next BB.out (Nat.le_refl _) hg.below)
 replace X := Lib.hid (Blk.below X.out hg.below X.out.lt)
 clear hg
 obtain ⟨a0, a1, a2, a3, a4, a5, a6, _⟩ := blk7 X.out
 have hlX := X.out.lt
 have hrx1 := rdk_one layP y2 ⟨n, 4, 2, 0, x⟩ 38 #[.string ⟨n.toArray⟩, .int .i64 4, .int .i64 2, .int .i64 0, .string ⟨x.toArray⟩] rfl
 have hbx1 : Below y2.heap.size y2 (y2.alloc (.cells #[.string ⟨n.toArray⟩, .int .i64 4, .int .i64 2, .int .i64 0, .string ⟨x.toArray⟩] 38)) := (gr1 y2 _).below
 have ho1 := OwnK.below O.out hbx1
 have hs1 : w.heap.size + 1 <= (y2.alloc (.cells #[.string ⟨n.toArray⟩, .int .i64 4, .int .i64 2, .int .i64 0, .string ⟨x.toArray⟩] 38)).heap.size := by have h1 := hbx1.size; have h2 := X.out.lt; omega
 have hbb1 : Below (w.heap.size + 1) y2 (y2.alloc (.cells #[.string ⟨n.toArray⟩, .int .i64 4, .int .i64 2, .int .i64 0, .string ⟨x.toArray⟩] 38)) := hbx1.mono (by have h2 := X.out.lt; omega)
 go_wp2_with (first | (at_builtin; refine wpList_append_k layP (by rfl) (.tmp 88) (.tmp 99) 22 underQ rfl (w.heap.size + 1) _ ([]) (by rfl) ho1 _ [⟨n, 4, 2, 0, x⟩] 1 1 (by rfl) hrx1 rfl (by rw [maxLen_num]; show 0 + 1 <= _; omega) (by show (0 + 1) * 56 <= _; omega) hs1 ?_; intro v1 x1 o1 b1 g1 l1; have hB1 := b1 _ hbb1; have hX1 := Blk.below X.out hB1 (Nat.lt_succ_self _); obtain ⟨a0, a1, a2, a3, a4, a5, a6, _⟩ := blk7 hX1; have hlX := hX1.lt; clear hrx1 hs1 ho1 b1 g1 l1))
 replace X := Lib.hid hX1
 replace BB := Lib.hid (BB.out.trans (hB1.mono (Nat.le_succ _)))
 replace O := Lib.hid o1
 clear hX1 hB1 hbb1 hbx1 o1
 go_ret
 exact ⟨_, rfl, (show OwnK layP _ _ _ [⟨n, 4, 2, 0, x⟩] from O.out.less (Nat.le_succ w.heap.size)), BB.out⟩
set_option maxRecDepth 100000 in
set_option maxHeartbeats 4000000 in
theorem rends_EN (n : List UInt8) (t : List UInt8) (ht : t.length <= 100) (htz : zeroEnd t = none) (A : Option Addr) (m c : Nat) (w : World) :
  Calls Try.prog 39 #[.string ⟨n.toArray⟩, .agg #[.int .i64 2, .int .i64 0, .int .i64 0, .string ⟨#[]⟩, .string ⟨t.toArray⟩, .bool false, .slice A m c]] w (GivesQ w [⟨n, 3, 2, 0, t⟩]) := by
 have HZX : Hid ((zeroEnd t).isSome = false) := by show _ = _; rw [htz]; rfl
 clear htz
 have X := Lib.hid (Blk.new w 29 #[.int .i64 2, .int .i64 0, .int .i64 0, .string ⟨#[]⟩, .string ⟨t.toArray⟩, .bool false, .slice A m c])
 have BB := Lib.hid (gr1 w (.cells #[.int .i64 2, .int .i64 0, .int .i64 0, .string ⟨#[]⟩, .string ⟨t.toArray⟩, .bool false, .slice A m c] 29)).below
 have O : Hid (OwnQ (w.alloc (.cells #[.int .i64 2, .int .i64 0, .int .i64 0, .string ⟨#[]⟩, .string ⟨t.toArray⟩, .bool false, .slice A m c] 29)) (w.heap.size + 1) (.slice none 0 0) []) := OwnK.none_ _ _
 go_enter Try.func39, Try.ntmps39
 skip
 obtain ⟨a0, a1, a2, a3, a4, a5, a6, _⟩ := blk7 X.out
 have hlX := X.out.lt
 go_wp2_with fail
 refine (rzero_is [] (by simp) false rfl _).mono ?_
 rintro e y1 ⟨rfl, hg⟩
 replace O := Lib.hid (OwnK.below O.out hg.below)
 replace BB := Lib.hid (below_next BB.out (Nat.le_refl _) hg.below)
 replace X := Lib.hid (Blk.below X.out hg.below X.out.lt)
 clear hg
 obtain ⟨a0, a1, a2, a3, a4, a5, a6, _⟩ := blk7 X.out
 have hlX := X.out.lt
 go_wp2_with fail
 refine (rzero_is t (by omega) false HZX.out _).mono ?_
 rintro e y2 ⟨rfl, hg⟩
 replace O := Lib.hid (OwnK.below O.out hg.below)
 replace BB := Lib.hid (below_next BB.out (Nat.le_refl _) hg.below)
 replace X := Lib.hid (Blk.below X.out hg.below X.out.lt)
 clear hg
 obtain ⟨a0, a1, a2, a3, a4, a5, a6, _⟩ := blk7 X.out
 have hlX := X.out.lt
 have hrx1 := rdk_one layP y2 ⟨n, 3, 2, 0, t⟩ 38 #[.string ⟨n.toArray⟩, .int .i64 3, .int .i64 2, .int .i64 0, .string ⟨t.toArray⟩] rfl
 have hbx1 : Below y2.heap.size y2 (y2.alloc (.cells #[.string ⟨n.toArray⟩, .int .i64 3, .int .i64 2, .int .i64 0, .string ⟨t.toArray⟩] 38)) := (gr1 y2 _).below
 have ho1 := OwnK.below O.out hbx1
 have hs1 : w.heap.size + 1 <= (y2.alloc (.cells #[.string ⟨n.toArray⟩, .int .i64 3, .int .i64 2, .int .i64 0, .string ⟨t.toArray⟩] 38)).heap.size := by have h1 := hbx1.size; have h2 := X.out.lt; omega
 have hbb1 : Below (w.heap.size + 1) y2 (y2.alloc (.cells #[.string ⟨n.toArray⟩, .int .i64 3, .int .i64 2, .int .i64 0, .string ⟨t.toArray⟩] 38)) := hbx1.mono (by have h2 := X.out.lt; omega)
 go_wp2_with (first | (at_builtin; refine wpList_append_k layP (by rfl) (.tmp 109) (.tmp 115) 22 underQ rfl (w.heap.size + 1) _ ([]) (by rfl) ho1 _ [⟨n, 3, 2, 0, t⟩] 1 1 (by rfl) hrx1 rfl (by rw [maxLen_num]; show 0 + 1 <= _; omega) (by show (0 + 1) * 56 <= _; omega) hs1 ?_; intro v1 x1 o1 b1 g1 l1; have hB1 := b1 _ hbb1; have hX1 := Blk.below X.out hB1 (Nat.lt_succ_self _); obtain ⟨a0, a1, a2, a3, a4, a5, a6, _⟩ := blk7 hX1; have hlX := hX1.lt; clear hrx1 hs1 ho1 b1 g1 l1))
 replace X := Lib.hid hX1
 replace BB := Lib.hid (BB.out.trans (hB1.mono (Nat.le_succ _)))
 replace O := Lib.hid o1
 clear hX1 hB1 hbb1 hbx1 o1
 go_ret
 exact ⟨_, rfl, (show OwnK layP _ _ _ [⟨n, 3, 2, 0, t⟩] from O.out.less (Nat.le_succ w.heap.size)), BB.out⟩
set_option maxRecDepth 100000 in
set_option maxHeartbeats 4000000 in
theorem rends_NO (n : List UInt8) (f : List UInt8) (hf : f.length <= 100) (hf0 : f ≠ []) (hfz : zeroEnd f = none) (A : Option Addr) (m c : Nat) (w : World) :
  Calls Try.prog 39 #[.string ⟨n.toArray⟩, .agg #[.int .i64 2, .int .i64 0, .int .i64 0, .string ⟨f.toArray⟩, .string ⟨#[]⟩, .bool true, .slice A m c]] w (GivesQ w [⟨n, 6, 2, 0, f⟩]) := by
 have HZU : Hid ((zeroEnd f).isSome = false) := by show _ = _; rw [hfz]; rfl
 have v0 : (f == []) = false := by simpa using hf0
 clear hfz hf0
 have X := Lib.hid (Blk.new w 29 #[.int .i64 2, .int .i64 0, .int .i64 0, .string ⟨f.toArray⟩, .string ⟨#[]⟩, .bool true, .slice A m c])
 have BB := Lib.hid (gr1 w (.cells #[.int .i64 2, .int .i64 0, .int .i64 0, .string ⟨f.toArray⟩, .string ⟨#[]⟩, .bool true, .slice A m c] 29)).below
 have O : Hid (OwnQ (w.alloc (.cells #[.int .i64 2, .int .i64 0, .int .i64 0, .string ⟨f.toArray⟩, .string ⟨#[]⟩, .bool true, .slice A m c] 29)) (w.heap.size + 1) (.slice none 0 0) []) := OwnK.none_ _ _
 go_enter Try.func39, Try.ntmps39
 skip
 obtain ⟨a0, a1, a2, a3, a4, a5, a6, _⟩ := blk7 X.out
 have hlX := X.out.lt
 go_wp2_with fail
 refine (rzero_is f (by omega) false HZU.out _).mono ?_
 rintro e y1 ⟨rfl, hg⟩
 replace O := Lib.hid (OwnK.below O.out hg.below)
 replace BB := Lib.hid (below_next BB.out (Nat.le_refl _) hg.below)
 replace X := Lib.hid (Blk.below X.out hg.below X.out.lt)
 clear hg
 obtain ⟨a0, a1, a2, a3, a4, a5, a6, _⟩ := blk7 X.out
 have hlX := X.out.lt
 have hrx1 := rdk_one layP y1 ⟨n, 6, 2, 0, f⟩ 38 #[.string ⟨n.toArray⟩, .int .i64 6, .int .i64 2, .int .i64 0, .string ⟨f.toArray⟩] rfl
 have hbx1 : Below y1.heap.size y1 (y1.alloc (.cells #[.string ⟨n.toArray⟩, .int .i64 6, .int .i64 2, .int .i64 0, .string ⟨f.toArray⟩] 38)) := (gr1 y1 _).below
 have ho1 := OwnK.below O.out hbx1
 have hs1 : w.heap.size + 1 <= (y1.alloc (.cells #[.string ⟨n.toArray⟩, .int .i64 6, .int .i64 2, .int .i64 0, .string ⟨f.toArray⟩] 38)).heap.size := by have h1 := hbx1.size; have h2 := X.out.lt; omega
 have hbb1 : Below (w.heap.size + 1) y1 (y1.alloc (.cells #[.string ⟨n.toArray⟩, .int .i64 6, .int .i64 2, .int .i64 0, .string ⟨f.toArray⟩] 38)) := hbx1.mono (by have h2 := X.out.lt; omega)
 go_wp2_with (first | (at_builtin; refine wpList_append_k layP (by rfl) (.tmp 67) (.tmp 73) 22 underQ rfl (w.heap.size + 1) _ ([]) (by rfl) ho1 _ [⟨n, 6, 2, 0, f⟩] 1 1 (by rfl) hrx1 rfl (by rw [maxLen_num]; show 0 + 1 <= _; omega) (by show (0 + 1) * 56 <= _; omega) hs1 ?_; intro v1 x1 o1 b1 g1 l1; have hB1 := b1 _ hbb1; have hX1 := Blk.below X.out hB1 (Nat.lt_succ_self _); obtain ⟨a0, a1, a2, a3, a4, a5, a6, _⟩ := blk7 hX1; have hlX := hX1.lt; clear hrx1 hs1 ho1 b1 g1 l1))
 replace X := Lib.hid hX1
 replace BB := Lib.hid (BB.out.trans (hB1.mono (Nat.le_succ _)))
 replace O := Lib.hid o1
 clear hX1 hB1 hbb1 hbx1 o1
 go_ret
 exact ⟨_, rfl, (show OwnK layP _ _ _ [⟨n, 6, 2, 0, f⟩] from O.out.less (Nat.le_succ w.heap.size)), BB.out⟩
set_option maxRecDepth 100000 in
set_option maxHeartbeats 4000000 in
theorem rends_NZ (n : List UInt8) (f : List UInt8) (hf : f.length <= 100) (hf0 : f ≠ []) (hfz : zeroEnd f = none) (x : List UInt8) (hx : x.length <= 100) (A : Option Addr) (m c : Nat) (w : World) :
  Calls Try.prog 39 #[.string ⟨n.toArray⟩, .agg #[.int .i64 2, .int .i64 0, .int .i64 0, .string ⟨f.toArray⟩, .string ⟨(x ++ [0]).toArray⟩, .bool false, .slice A m c]] w (GivesQ w [⟨n, 6, 2, 0, f⟩, ⟨n, 4, 2, 0, x⟩]) := by
 have HZU : Hid ((zeroEnd f).isSome = false) := by show _ = _; rw [hfz]; rfl
 have v0 : (f == []) = false := by simpa using hf0
 clear hfz hf0
 have e3 := ext_init x 0
 have e4 : (⟨(x ++ [0]).toArray⟩ : ByteArray).size = x.length + 1 := by simp [ByteArray.size]
 have HZX : Hid ((zeroEnd (x ++ [0])).isSome = true) := by show _ = _; rw [(zeroEnd_iff _ x).2 rfl]; rfl
 have X := Lib.hid (Blk.new w 29 #[.int .i64 2, .int .i64 0, .int .i64 0, .string ⟨f.toArray⟩, .string ⟨(x ++ [0]).toArray⟩, .bool false, .slice A m c])
 have BB := Lib.hid (gr1 w (.cells #[.int .i64 2, .int .i64 0, .int .i64 0, .string ⟨f.toArray⟩, .string ⟨(x ++ [0]).toArray⟩, .bool false, .slice A m c] 29)).below
 have O : Hid (OwnQ (w.alloc (.cells #[.int .i64 2, .int .i64 0, .int .i64 0, .string ⟨f.toArray⟩, .string ⟨(x ++ [0]).toArray⟩, .bool false, .slice A m c] 29)) (w.heap.size + 1) (.slice none 0 0) []) := OwnK.none_ _ _
 go_enter Try.func39, Try.ntmps39
 skip
 obtain ⟨a0, a1, a2, a3, a4, a5, a6, _⟩ := blk7 X.out
 have hlX := X.out.lt
 go_wp2_with fail
 refine (rzero_is f (by omega) false HZU.out _).mono ?_
 rintro e y1 ⟨rfl, hg⟩
 replace O := Lib.hid (OwnK.below O.out hg.below)
 replace BB := Lib.hid (below_next BB.out (Nat.le_refl _) hg.below)
 replace X := Lib.hid (Blk.below X.out hg.below X.out.lt)
 clear hg
 obtain ⟨a0, a1, a2, a3, a4, a5, a6, _⟩ := blk7 X.out
 have hlX := X.out.lt
 have hrx1 := rdk_one layP y1 ⟨n, 6, 2, 0, f⟩ 38 #[.string ⟨n.toArray⟩, .int .i64 6, .int .i64 2, .int .i64 0, .string ⟨f.toArray⟩] rfl
 have hbx1 : Below y1.heap.size y1 (y1.alloc (.cells #[.string ⟨n.toArray⟩, .int .i64 6, .int .i64 2, .int .i64 0, .string ⟨f.toArray⟩] 38)) := (gr1 y1 _).below
 have ho1 := OwnK.below O.out hbx1
 have hs1 : w.heap.size + 1 <= (y1.alloc (.cells #[.string ⟨n.toArray⟩, .int .i64 6, .int .i64 2, .int .i64 0, .string ⟨f.toArray⟩] 38)).heap.size := by have h1 := hbx1.size; have h2 := X.out.lt; omega
 have hbb1 : Below (w.heap.size + 1) y1 (y1.alloc (.cells #[.string ⟨n.toArray⟩, .int .i64 6, .int .i64 2, .int .i64 0, .string ⟨f.toArray⟩] 38)) := hbx1.mono (by have h2 := X.out.lt; omega)
 go_wp2_with (first | (at_builtin; refine wpList_append_k layP (by rfl) (.tmp 67) (.tmp 73) 22 underQ rfl (w.heap.size + 1) _ ([]) (by rfl) ho1 _ [⟨n, 6, 2, 0, f⟩] 1 1 (by rfl) hrx1 rfl (by rw [maxLen_num]; show 0 + 1 <= _; omega) (by show (0 + 1) * 56 <= _; omega) hs1 ?_; intro v1 x1 o1 b1 g1 l1; have hB1 := b1 _ hbb1; have hX1 := Blk.below X.out hB1 (Nat.lt_succ_self _); obtain ⟨a0, a1, a2, a3, a4, a5, a6, _⟩ := blk7 hX1; have hlX := hX1.lt; clear hrx1 hs1 ho1 b1 g1 l1))
 replace X := Lib.hid hX1
 replace BB := Lib.hid (BB.out.trans (hB1.mono (Nat.le_succ _)))
 replace O := Lib.hid o1
 clear hX1 hB1 hbb1 hbx1 o1
 refine (rzero_is (x ++ [0]) (by simp; omega) true HZX.out _).mono ?_
 rintro e y2 ⟨rfl, hg⟩
 replace O := Lib.hid (OwnK.below O.out hg.below)
 replace BB := Lib.hid (below_next BB.out (Nat.le_refl _) hg.below)
 replace X := Lib.hid (Blk.below X.out hg.below X.out.lt)
 clear hg
 obtain ⟨a0, a1, a2, a3, a4, a5, a6, _⟩ := blk7 X.out
 have hlX := X.out.lt
 have hrx2 := rdk_one layP y2 ⟨n, 4, 2, 0, x⟩ 38 #[.string ⟨n.toArray⟩, .int .i64 4, .int .i64 2, .int .i64 0, .string ⟨x.toArray⟩] rfl
 have hbx2 : Below y2.heap.size y2 (y2.alloc (.cells #[.string ⟨n.toArray⟩, .int .i64 4, .int .i64 2, .int .i64 0, .string ⟨x.toArray⟩] 38)) := (gr1 y2 _).below
 have ho2 := OwnK.below O.out hbx2
 have hs2 : w.heap.size + 1 <= (y2.alloc (.cells #[.string ⟨n.toArray⟩, .int .i64 4, .int .i64 2, .int .i64 0, .string ⟨x.toArray⟩] 38)).heap.size := by have h1 := hbx2.size; have h2 := X.out.lt; omega
 have hbb2 : Below (w.heap.size + 1) y2 (y2.alloc (.cells #[.string ⟨n.toArray⟩, .int .i64 4, .int .i64 2, .int .i64 0, .string ⟨x.toArray⟩] 38)) := hbx2.mono (by have h2 := X.out.lt; omega)
 go_wp2_with (first | (at_builtin; refine wpList_append_k layP (by rfl) (.tmp 88) (.tmp 99) 22 underQ rfl (w.heap.size + 1) _ ([] ++ [⟨n, 6, 2, 0, f⟩]) (by rfl) ho2 _ [⟨n, 4, 2, 0, x⟩] 1 1 (by rfl) hrx2 rfl (by rw [maxLen_num]; show 1 + 1 <= _; omega) (by show (1 + 1) * 56 <= _; omega) hs2 ?_; intro v2 x2 o2 b2 g2 l2; have hB2 := b2 _ hbb2; have hX2 := Blk.below X.out hB2 (Nat.lt_succ_self _); obtain ⟨a0, a1, a2, a3, a4, a5, a6, _⟩ := blk7 hX2; have hlX := hX2.lt; clear hrx2 hs2 ho2 b2 g2 l2))
 replace X := Lib.hid hX2
 replace BB := Lib.hid (BB.out.trans (hB2.mono (Nat.le_succ _)))
 replace O := Lib.hid o2
 clear hX2 hB2 hbb2 hbx2 o2
 go_ret
 exact ⟨_, rfl, (show OwnK layP _ _ _ [⟨n, 6, 2, 0, f⟩, ⟨n, 4, 2, 0, x⟩] from O.out.less (Nat.le_succ w.heap.size)), BB.out⟩
set_option maxRecDepth 100000 in
set_option maxHeartbeats 4000000 in
theorem rends_NN (n : List UInt8) (f : List UInt8) (hf : f.length <= 100) (hf0 : f ≠ []) (hfz : zeroEnd f = none) (t : List UInt8) (ht : t.length <= 100) (htz : zeroEnd t = none) (A : Option Addr) (m c : Nat) (w : World) :
  Calls Try.prog 39 #[.string ⟨n.toArray⟩, .agg #[.int .i64 2, .int .i64 0, .int .i64 0, .string ⟨f.toArray⟩, .string ⟨t.toArray⟩, .bool false, .slice A m c]] w (GivesQ w [⟨n, 6, 2, 0, f⟩, ⟨n, 3, 2, 0, t⟩]) := by
 have HZU : Hid ((zeroEnd f).isSome = false) := by show _ = _; rw [hfz]; rfl
 have v0 : (f == []) = false := by simpa using hf0
 clear hfz hf0
 have HZX : Hid ((zeroEnd t).isSome = false) := by show _ = _; rw [htz]; rfl
 clear htz
 have X := Lib.hid (Blk.new w 29 #[.int .i64 2, .int .i64 0, .int .i64 0, .string ⟨f.toArray⟩, .string ⟨t.toArray⟩, .bool false, .slice A m c])
 have BB := Lib.hid (gr1 w (.cells #[.int .i64 2, .int .i64 0, .int .i64 0, .string ⟨f.toArray⟩, .string ⟨t.toArray⟩, .bool false, .slice A m c] 29)).below
 have O : Hid (OwnQ (w.alloc (.cells #[.int .i64 2, .int .i64 0, .int .i64 0, .string ⟨f.toArray⟩, .string ⟨t.toArray⟩, .bool false, .slice A m c] 29)) (w.heap.size + 1) (.slice none 0 0) []) := OwnK.none_ _ _
 go_enter Try.func39, Try.ntmps39
 skip
 obtain ⟨a0, a1, a2, a3, a4, a5, a6, _⟩ := blk7 X.out
 have hlX := X.out.lt
 go_wp2_with fail
 refine (rzero_is f (by omega) false HZU.out _).mono ?_
 rintro e y1 ⟨rfl, hg⟩
 replace O := Lib.hid (OwnK.below O.out hg.below)
 replace BB := Lib.hid (below_next BB.out (Nat.le_refl _) hg.below)
 replace X := Lib.hid (Blk.below X.out hg.below X.out.lt)
 clear hg
 obtain ⟨a0, a1, a2, a3, a4, a5, a6, _⟩ := blk7 X.out
 have hlX := X.out.lt
 have hrx1 := rdk_one layP y1 ⟨n, 6, 2, 0, f⟩ 38 #[.string ⟨n.toArray⟩, .int .i64 6, .int .i64 2, .int .i64 0, .string ⟨f.toArray⟩] rfl
 have hbx1 : Below y1.heap.size y1 (y1.alloc (.cells #[.string ⟨n.toArray⟩, .int .i64 6, .int .i64 2, .int .i64 0, .string ⟨f.toArray⟩] 38)) := (gr1 y1 _).below
 have ho1 := OwnK.below O.out hbx1
 have hs1 : w.heap.size + 1 <= (y1.alloc (.cells #[.string ⟨n.toArray⟩, .int .i64 6, .int .i64 2, .int .i64 0, .string ⟨f.toArray⟩] 38)).heap.size := by have h1 := hbx1.size; have h2 := X.out.lt; omega
 have hbb1 : Below (w.heap.size + 1) y1 (y1.alloc (.cells #[.string ⟨n.toArray⟩, .int .i64 6, .int .i64 2, .int .i64 0, .string ⟨f.toArray⟩] 38)) := hbx1.mono (by have h2 := X.out.lt; omega)
 go_wp2_with (first | (at_builtin; refine wpList_append_k layP (by rfl) (.tmp 67) (.tmp 73) 22 underQ rfl (w.heap.size + 1) _ ([]) (by rfl) ho1 _ [⟨n, 6, 2, 0, f⟩] 1 1 (by rfl) hrx1 rfl (by rw [maxLen_num]; show 0 + 1 <= _; omega) (by show (0 + 1) * 56 <= _; omega) hs1 ?_; intro v1 x1 o1 b1 g1 l1; have hB1 := b1 _ hbb1; have hX1 := Blk.below X.out hB1 (Nat.lt_succ_self _); obtain ⟨a0, a1, a2, a3, a4, a5, a6, _⟩ := blk7 hX1; have hlX := hX1.lt; clear hrx1 hs1 ho1 b1 g1 l1))
 replace X := Lib.hid hX1
 replace BB := Lib.hid (BB.out.trans (hB1.mono (Nat.le_succ _)))
 replace O := Lib.hid o1
 clear hX1 hB1 hbb1 hbx1 o1
 refine (rzero_is t (by omega) false HZX.out _).mono ?_
 rintro e y2 ⟨rfl, hg⟩
 replace O := Lib.hid (OwnK.below O.out hg.below)
 replace BB := Lib.hid (below_next BB.out (Nat.le_refl _) hg.below)
 replace X := Lib.hid (Blk.below X.out hg.below X.out.lt)
 clear hg
 obtain ⟨a0, a1, a2, a3, a4, a5, a6, _⟩ := blk7 X.out
 have hlX := X.out.lt
 have hrx2 := rdk_one layP y2 ⟨n, 3, 2, 0, t⟩ 38 #[.string ⟨n.toArray⟩, .int .i64 3, .int .i64 2, .int .i64 0, .string ⟨t.toArray⟩] rfl
 have hbx2 : Below y2.heap.size y2 (y2.alloc (.cells #[.string ⟨n.toArray⟩, .int .i64 3, .int .i64 2, .int .i64 0, .string ⟨t.toArray⟩] 38)) := (gr1 y2 _).below
 have ho2 := OwnK.below O.out hbx2
 have hs2 : w.heap.size + 1 <= (y2.alloc (.cells #[.string ⟨n.toArray⟩, .int .i64 3, .int .i64 2, .int .i64 0, .string ⟨t.toArray⟩] 38)).heap.size := by have h1 := hbx2.size; have h2 := X.out.lt; omega
 have hbb2 : Below (w.heap.size + 1) y2 (y2.alloc (.cells #[.string ⟨n.toArray⟩, .int .i64 3, .int .i64 2, .int .i64 0, .string ⟨t.toArray⟩] 38)) := hbx2.mono (by have h2 := X.out.lt; omega)
 go_wp2_with (first | (at_builtin; refine wpList_append_k layP (by rfl) (.tmp 109) (.tmp 115) 22 underQ rfl (w.heap.size + 1) _ ([] ++ [⟨n, 6, 2, 0, f⟩]) (by rfl) ho2 _ [⟨n, 3, 2, 0, t⟩] 1 1 (by rfl) hrx2 rfl (by rw [maxLen_num]; show 1 + 1 <= _; omega) (by show (1 + 1) * 56 <= _; omega) hs2 ?_; intro v2 x2 o2 b2 g2 l2; have hB2 := b2 _ hbb2; have hX2 := Blk.below X.out hB2 (Nat.lt_succ_self _); obtain ⟨a0, a1, a2, a3, a4, a5, a6, _⟩ := blk7 hX2; have hlX := hX2.lt; clear hrx2 hs2 ho2 b2 g2 l2))
 replace X := Lib.hid hX2
 replace BB := Lib.hid (BB.out.trans (hB2.mono (Nat.le_succ _)))
 replace O := Lib.hid o2
 clear hX2 hB2 hbb2 hbx2 o2
 go_ret
 exact ⟨_, rfl, (show OwnK layP _ _ _ [⟨n, 6, 2, 0, f⟩, ⟨n, 3, 2, 0, t⟩] from O.out.less (Nat.le_succ w.heap.size)), BB.out⟩
end Go.Proofs.Ytoffnfooeojhnaa
namespace Go.Proofs.Ytoffnfooeojhnaa
open Go.RowKit Go.Sort Spans Op
set_option maxRecDepth 100000 in
set_option maxHeartbeats 4000000 in
theorem rprs_none (n : List UInt8) (lo hi : Int) (f t : List UInt8) (o : Bool) (A : Option Addr) (m c : Nat) (w : World) :
  Calls Try.prog 17 #[.string ⟨n.toArray⟩, .agg #[.int .i64 0, .int .i64 lo, .int .i64 hi, .string ⟨f.toArray⟩, .string ⟨t.toArray⟩, .bool o, .slice A m c]] w (GivesQ w []) := by
 go_enter Try.func17, Try.ntmps17
 go_wp2_with fail
 go_ret
 exact ⟨_, rfl, OwnK.none_ _ _, (gr1 _ _).below⟩
set_option maxRecDepth 100000 in
set_option maxHeartbeats 4000000 in
theorem rprs_name0 (n : List UInt8) (K : Int) (lo hi : Int) (f t : List UInt8) (o : Bool) (h0 : K ≠ 0) (h1 : n.length < 1) (A : Option Addr) (m c : Nat) (w : World) :
  Calls Try.prog 17 #[.string ⟨n.toArray⟩, .agg #[.int .i64 K, .int .i64 lo, .int .i64 hi, .string ⟨f.toArray⟩, .string ⟨t.toArray⟩, .bool o, .slice A m c]] w (GivesQ w []) := by
 have v0 : (K == 0) = false := beq_eq_false_iff_ne.2 h0
 clear h0
 have d1 : decide ((n.length : Int) < 1) = true := decide_eq_true (by omega)
 go_enter Try.func17, Try.ntmps17
 go_wp2_with fail
 go_ret
 exact ⟨_, rfl, OwnK.none_ _ _, (gr1 _ _).below⟩
set_option maxRecDepth 100000 in
set_option maxHeartbeats 4000000 in
theorem rprs_name1 (n : List UInt8) (K : Int) (lo hi : Int) (f t : List UInt8) (o : Bool) (h0 : K ≠ 0) (h2 : 16 < n.length) (A : Option Addr) (m c : Nat) (w : World) :
  Calls Try.prog 17 #[.string ⟨n.toArray⟩, .agg #[.int .i64 K, .int .i64 lo, .int .i64 hi, .string ⟨f.toArray⟩, .string ⟨t.toArray⟩, .bool o, .slice A m c]] w (GivesQ w []) := by
 have v0 : (K == 0) = false := beq_eq_false_iff_ne.2 h0
 clear h0
 have d1 : decide ((n.length : Int) < 1) = false := decide_eq_false (by omega)
 have d2 : decide ((16 : Int) < (n.length : Int)) = true := decide_eq_true (by omega)
 go_enter Try.func17, Try.ntmps17
 go_wp2_with fail
 go_ret
 exact ⟨_, rfl, OwnK.none_ _ _, (gr1 _ _).below⟩
set_option maxRecDepth 100000 in
set_option maxHeartbeats 4000000 in
theorem rprs_any (n : List UInt8) (lo hi : Int) (f t : List UInt8) (o : Bool) (h1 : 1 <= n.length) (h2 : n.length <= 16) (A : Option Addr) (m c : Nat) (w : World) :
  Calls Try.prog 17 #[.string ⟨n.toArray⟩, .agg #[.int .i64 4, .int .i64 lo, .int .i64 hi, .string ⟨f.toArray⟩, .string ⟨t.toArray⟩, .bool o, .slice A m c]] w (GivesQ w [⟨n, 8, 0, 0, []⟩]) := by
 have d1 : decide ((n.length : Int) < 1) = false := decide_eq_false (by omega)
 have d2 : decide ((16 : Int) < (n.length : Int)) = false := decide_eq_false (by omega)
 have d1' : decide (n.length < 1) = false := decide_eq_false (by omega)
 have d2' : decide (16 < n.length) = false := decide_eq_false (by omega)
 clear h1 h2
 go_enter Try.func17, Try.ntmps17
 go_wp2_with fail
 go_ret
 have h := own_litK layP (w.alloc (.cells #[.int .i64 4, .int .i64 lo, .int .i64 hi, .string ⟨f.toArray⟩, .string ⟨t.toArray⟩, .bool o, .slice A m c] 29)) w.heap.size (by simp) ⟨n, 8, 0, 0, []⟩ rfl
 rw [show (w.alloc (.cells #[.int .i64 4, .int .i64 lo, .int .i64 hi, .string ⟨f.toArray⟩, .string ⟨t.toArray⟩, .bool o, .slice A m c] 29)).heap.size = w.heap.size + 1 by simp] at h
 exact ⟨_, rfl, h, (gr2 _ _ _).below⟩
set_option maxRecDepth 100000 in
set_option maxHeartbeats 4000000 in
theorem rprs_one1 (n : List UInt8) (lo : Int) (h1 : 1 <= n.length) (h2 : n.length <= 16) (A : Option Addr) (m c : Nat) (w : World) :
  Calls Try.prog 17 #[.string ⟨n.toArray⟩, .agg #[.int .i64 1, .int .i64 lo, .int .i64 lo, .string ⟨#[]⟩, .string ⟨#[]⟩, .bool false, .slice A m c]] w (GivesQ w [⟨n, 1, 1, lo, []⟩]) := by
 have d1 : decide ((n.length : Int) < 1) = false := decide_eq_false (by omega)
 have d2 : decide ((16 : Int) < (n.length : Int)) = false := decide_eq_false (by omega)
 have d1' : decide (n.length < 1) = false := decide_eq_false (by omega)
 have d2' : decide (16 < n.length) = false := decide_eq_false (by omega)
 clear h1 h2
 go_enter Try.func17, Try.ntmps17
 go_wp2_with fail
 go_ret
 have h := own_litK layP (w.alloc (.cells #[.int .i64 1, .int .i64 lo, .int .i64 lo, .string ⟨#[]⟩, .string ⟨#[]⟩, .bool false, .slice A m c] 29)) w.heap.size (by simp) ⟨n, 1, 1, lo, []⟩ rfl
 have hs : ∀ (W : World) (o : Obj), (W.alloc o).heap.size = W.heap.size + 1 := fun W o => by simp
 rw [hs] at h
 exact ⟨_, rfl, h, (gr2 _ _ _).below⟩
set_option maxRecDepth 100000 in
set_option maxHeartbeats 4000000 in
theorem rprs_one3 (n : List UInt8) (lo : Int) (h1 : 1 <= n.length) (h2 : n.length <= 16) (A : Option Addr) (m c : Nat) (w : World) :
  Calls Try.prog 17 #[.string ⟨n.toArray⟩, .agg #[.int .i64 3, .int .i64 lo, .int .i64 lo, .string ⟨#[]⟩, .string ⟨#[]⟩, .bool false, .slice A m c]] w (GivesQ w [⟨n, 1, 3, lo, []⟩]) := by
 have d1 : decide ((n.length : Int) < 1) = false := decide_eq_false (by omega)
 have d2 : decide ((16 : Int) < (n.length : Int)) = false := decide_eq_false (by omega)
 have d1' : decide (n.length < 1) = false := decide_eq_false (by omega)
 have d2' : decide (16 < n.length) = false := decide_eq_false (by omega)
 clear h1 h2
 go_enter Try.func17, Try.ntmps17
 go_wp2_with fail
 go_ret
 have h := own_litK layP (w.alloc (.cells #[.int .i64 3, .int .i64 lo, .int .i64 lo, .string ⟨#[]⟩, .string ⟨#[]⟩, .bool false, .slice A m c] 29)) w.heap.size (by simp) ⟨n, 1, 3, lo, []⟩ rfl
 have hs : ∀ (W : World) (o : Obj), (W.alloc o).heap.size = W.heap.size + 1 := fun W o => by simp
 rw [hs] at h
 exact ⟨_, rfl, h, (gr2 _ _ _).below⟩
set_option maxRecDepth 100000 in
set_option maxHeartbeats 4000000 in
theorem rprs_oneT (n : List UInt8) (f : List UInt8) (hf : f.length <= 100) (h1 : 1 <= n.length) (h2 : n.length <= 16) (A : Option Addr) (m c : Nat) (w : World) :
  Calls Try.prog 17 #[.string ⟨n.toArray⟩, .agg #[.int .i64 2, .int .i64 0, .int .i64 0, .string ⟨f.toArray⟩, .string ⟨(f ++ [0]).toArray⟩, .bool false, .slice A m c]] w (GivesQ w [⟨n, 1, 2, 0, f⟩]) := by
 have d1 : decide ((n.length : Int) < 1) = false := decide_eq_false (by omega)
 have d2 : decide ((16 : Int) < (n.length : Int)) = false := decide_eq_false (by omega)
 have d1' : decide (n.length < 1) = false := decide_eq_false (by omega)
 have d2' : decide (16 < n.length) = false := decide_eq_false (by omega)
 have hap := ba_app0 f
 have hno : ¬ 9223372036854775807 < f.length + 1 := by omega
 clear h1 h2 hf
 go_enter Try.func17, Try.ntmps17
 go_wp2_with fail
 go_ret
 have h := own_litK layP (w.alloc (.cells #[.int .i64 2, .int .i64 0, .int .i64 0, .string ⟨f.toArray⟩, .string ⟨(f ++ [0]).toArray⟩, .bool false, .slice A m c] 29)) w.heap.size (by simp) ⟨n, 1, 2, 0, f⟩ rfl
 have hs : ∀ (W : World) (o : Obj), (W.alloc o).heap.size = W.heap.size + 1 := fun W o => by simp
 rw [hs] at h
 exact ⟨_, rfl, h, (gr2 _ _ _).below⟩
set_option maxRecDepth 100000 in
set_option maxHeartbeats 4000000 in
theorem rprs_m1 (n : List UInt8) (lo hi : Int) (hne : lo ≠ hi) (A : Option Addr) (m c : Nat) (es : List Val) (l : List Pr) (hl : l.length <= 4) (hE : ∀ W, Calls Try.prog 39 #[.string ⟨n.toArray⟩, .agg #[.int .i64 1, .int .i64 lo, .int .i64 hi, .string ⟨#[]⟩, .string ⟨#[]⟩, .bool false, .slice A m c]] W (GivesQ W l)) (h1 : 1 <= n.length) (h2 : n.length <= 16) (hm : es.length = m) (hmm : m <= 1000) (w : World) (hes : RdW w A es) :
  Calls Try.prog 17 #[.string ⟨n.toArray⟩, .agg #[.int .i64 1, .int .i64 lo, .int .i64 hi, .string ⟨#[]⟩, .string ⟨#[]⟩, .bool false, .slice A m c]] w (GivesQ w (orP (l ++ es.map fun v => (⟨n, 2, v.k, v.i, v.t⟩ : Pr)) ⟨n, 6, 1, (-9223372036854775808), []⟩)) := by
 have d1 : decide ((n.length : Int) < 1) = false := decide_eq_false (by omega)
 have d2 : decide ((16 : Int) < (n.length : Int)) = false := decide_eq_false (by omega)
 have d1' : decide (n.length < 1) = false := decide_eq_false (by omega)
 have d2' : decide (16 < n.length) = false := decide_eq_false (by omega)
 have vn : (lo == hi) = false := beq_eq_false_iff_ne.2 hne
 clear h1 h2 hne
 have HES := Lib.hid hes
 have HM := Lib.hid hm
 clear hes hm
 have hsz : (w.alloc (.cells #[.int .i64 1, .int .i64 lo, .int .i64 hi, .string ⟨#[]⟩, .string ⟨#[]⟩, .bool false, .slice A m c] 29)).heap.size = w.heap.size + 1 := by simp
 have X := Lib.hid (Blk.new w 29 #[.int .i64 1, .int .i64 lo, .int .i64 hi, .string ⟨#[]⟩, .string ⟨#[]⟩, .bool false, .slice A m c])
 have BB := Lib.hid (gr1 w (.cells #[.int .i64 1, .int .i64 lo, .int .i64 hi, .string ⟨#[]⟩, .string ⟨#[]⟩, .bool false, .slice A m c] 29)).below
 have O : Hid (OwnQ (w.alloc (.cells #[.int .i64 1, .int .i64 lo, .int .i64 hi, .string ⟨#[]⟩, .string ⟨#[]⟩, .bool false, .slice A m c] 29)) (w.heap.size + 1) (.slice none 0 0) []) := OwnK.none_ _ _
 go_enter Try.func17, Try.ntmps17
 obtain ⟨a0, a1, a2, a3, a4, a5, a6, _⟩ := blk7 X.out
 have hlX := X.out.lt
 go_wp2_with fail
 refine (hE _).mono ?_
 rintro e w1 ⟨v1, rfl, ho, hb⟩
 rw [hsz] at ho
 obtain ⟨B1, d1x, hv1, hd1, _⟩ := OwnK.form ho (n := l.length) rfl
 subst hv1
 clear a0 a1 a2 a3 a4 a5 a6 hlX
 replace BB := Lib.hid (below_next BB.out (Nat.le_refl _) hb)
 replace X := Lib.hid (Blk.below X.out hb X.out.lt)
 replace O := Lib.hid ho
 clear ho hb hsz
 go_wp2_with fail
 go_loopg [5, 6] m (fun gg s5 s6 wr => ∃ (q k d : Nat) (B2 : Option Addr) (out : List Pr), q <= m /\ m - q <= gg /\ s6 = .int .i64 (q : Int) /\ s5 = .slice B2 k d /\ k <= 4 + q /\ k <= d /\ Hid (out = l ++ (es.take q).map fun v => (⟨n, 2, v.k, v.i, v.t⟩ : Pr)) /\ Hid (out.length = k) /\ Hid (OwnQ wr (w.heap.size + 1) (.slice B2 k d) out) /\ Hid (Blk wr w.heap.size 29 #[.int .i64 1, .int .i64 lo, .int .i64 hi, .string ⟨#[]⟩, .string ⟨#[]⟩, .bool false, .slice A m c]) /\ Hid (Below w.heap.size w wr))
 case atStart => exact ⟨0, l.length, d1x, B1, l, Nat.zero_le _, by omega, rfl, rfl, by omega, hd1, by show _ = _; simp, rfl, O, X, BB⟩
 case round =>
  clear O X BB
  obtain ⟨q, k, d, B2, out, hq, hgg, rfl, rfl, hk4, hkd, HOUT, HK, O, X, BB⟩ := hrel
  obtain ⟨a0, a1, a2, a3, a4, a5, a6, _⟩ := blk7 X.out
  have hlX := X.out.lt
  by_cases hlt : q < m
  ·have hq' : q < es.length := by rw [HM.out]; exact hlt
   obtain ⟨gs, off, hA, hg, c0, c1, c2⟩ := RdW.at3 (RdK.below HES.out BB.out) hq'
   obtain ⟨x, hx⟩ : ∃ x, es[q] = x := ⟨_, rfl⟩
   have HX := Lib.hid hx
   rw [hx] at c0 c1 c2
   clear hx
   obtain ⟨xk, xi, xt⟩ := x
   dsimp only at c0 c1 c2
   subst hA
   have w5 : (q : Int) < (m : Int) := by omega
   have hrx1 := rdk_one layP wr ⟨n, 2, xk, xi, xt⟩ 38 #[.string ⟨n.toArray⟩, .int .i64 2, .int .i64 xk, .int .i64 xi, .string ⟨xt.toArray⟩] rfl
   have hbx1 : Below wr.heap.size wr (wr.alloc (.cells #[.string ⟨n.toArray⟩, .int .i64 2, .int .i64 xk, .int .i64 xi, .string ⟨xt.toArray⟩] 38)) := (gr1 wr _).below
   have ho1 := OwnK.below O.out hbx1
   have hs1 : w.heap.size + 1 <= (wr.alloc (.cells #[.string ⟨n.toArray⟩, .int .i64 2, .int .i64 xk, .int .i64 xi, .string ⟨xt.toArray⟩] 38)).heap.size := by have h1 := hbx1.size; have h2 := X.out.lt; omega
   have hbb1 : Below (w.heap.size + 1) wr (wr.alloc (.cells #[.string ⟨n.toArray⟩, .int .i64 2, .int .i64 xk, .int .i64 xi, .string ⟨xt.toArray⟩] 38)) := hbx1.mono (by have h2 := X.out.lt; omega)
   go_wp2_with (first | (at_builtin; refine wpList_append_k layP (by rfl) (.tmp 77) (.tmp 85) 22 underQ rfl (w.heap.size + 1) _ (out) (by rfl) ho1 _ [⟨n, 2, xk, xi, xt⟩] 1 1 (by rfl) hrx1 rfl (by rw [maxLen_num]; rw [HK.out]; omega) (by simp only [layP]; rw [HK.out]; omega) hs1 ?_; intro v1 x1 o1 b1 g1 l1; have hB1 := b1 _ hbb1; have hX1 := Blk.below X.out hB1 (Nat.lt_succ_self _); obtain ⟨a0, a1, a2, a3, a4, a5, a6, _⟩ := blk7 hX1; have hlX := hX1.lt; clear hrx1 hs1 ho1 b1 g1 l1))
   have hl9 : (out ++ [(⟨n, 2, xk, xi, xt⟩ : Pr)]).length = k + 1 := by rw [List.length_append, HK.out]; rfl
   have HOUT2 : Hid (out ++ [(⟨n, 2, xk, xi, xt⟩ : Pr)] = l ++ (es.take (q + 1)).map fun v => (⟨n, 2, v.k, v.i, v.t⟩ : Pr)) := by
    show _ = _
    rw [List.take_succ_eq_append_getElem hq', List.map_append, HOUT.out, HX.out, List.append_assoc]
    rfl
   obtain ⟨B9, d9, hv9, hd9, _⟩ := OwnK.form o1 hl9
   subst hv9
   have O9 := Lib.hid o1
   have X9 := Lib.hid hX1
   have BB9 := Lib.hid (BB.out.trans (hB1.mono (Nat.le_succ _)))
   have HL9 := Lib.hid hl9
   clear o1 hX1 hB1 hl9
   go_wp2_with fail
   go_roundg (m - (q + 1))
   case measure => omega
   case rel => exact ⟨q + 1, k + 1, d9, B9, _, by omega, Nat.le_refl _, by go_num, rfl, by omega, hd9, HOUT2, HL9, O9, X9, BB9⟩
  ·have hqm : q = m := by omega
   have HO2 : Hid (out = l ++ es.map fun v => (⟨n, 2, v.k, v.i, v.t⟩ : Pr)) := by
    show _ = _
    rw [HOUT.out, hqm, List.take_of_length_le (by rw [HM.out]; exact Nat.le_refl _)]
   clear HOUT hqm
   by_cases hk0 : k = 0
   ·subst hk0
    have HE0 : Hid (out = []) := List.eq_nil_of_length_eq_zero HK.out
    go_wp2_with fail
    go_ret
    refine ⟨_, rfl, ?_, ?_⟩
    ·rw [<- HO2.out, HE0.out]
     have h := own_litK layP (wr.alloc (.cells #[.int .i64 1, .int .i64 (-9223372036854775808), .string ⟨#[]⟩] 24)) w.heap.size (by have := BB.out.size; simp; omega) ⟨n, 6, 1, (-9223372036854775808), []⟩ rfl
     rw [show (wr.alloc (.cells #[.int .i64 1, .int .i64 (-9223372036854775808), .string ⟨#[]⟩] 24)).heap.size = wr.heap.size + 1 by simp] at h
     rw [show orP [] (⟨n, 6, 1, (-9223372036854775808), []⟩ : Pr) = [⟨n, 6, 1, (-9223372036854775808), []⟩] from if_pos rfl]
     exact h
    ·exact below_next BB.out (Nat.le_refl _) (gr2 _ _ _).below
   ·have hk1 : 0 < k := by omega
    have hk2 : (0 : Int) < (k : Int) := by omega
    have HE0 : Hid (out ≠ []) := fun e => by have := HK.out; rw [e] at this; simp at this; omega
    go_wp2_with fail
    go_ret
    refine ⟨_, rfl, ?_, BB.out⟩
    rw [<- HO2.out]
    unfold orP
    rw [if_neg HE0.out]
    exact O.out.less (Nat.le_succ _)
set_option maxRecDepth 100000 in
set_option maxHeartbeats 4000000 in
theorem rprs_m3 (n : List UInt8) (lo hi : Int) (hne : lo ≠ hi) (A : Option Addr) (m c : Nat) (es : List Val) (l : List Pr) (hl : l.length <= 4) (hE : ∀ W, Calls Try.prog 39 #[.string ⟨n.toArray⟩, .agg #[.int .i64 3, .int .i64 lo, .int .i64 hi, .string ⟨#[]⟩, .string ⟨#[]⟩, .bool false, .slice A m c]] W (GivesQ W l)) (h1 : 1 <= n.length) (h2 : n.length <= 16) (hm : es.length = m) (hmm : m <= 1000) (w : World) (hes : RdW w A es) :
  Calls Try.prog 17 #[.string ⟨n.toArray⟩, .agg #[.int .i64 3, .int .i64 lo, .int .i64 hi, .string ⟨#[]⟩, .string ⟨#[]⟩, .bool false, .slice A m c]] w (GivesQ w (orP (l ++ es.map fun v => (⟨n, 2, v.k, v.i, v.t⟩ : Pr)) ⟨n, 6, 3, 0, []⟩)) := by
 have d1 : decide ((n.length : Int) < 1) = false := decide_eq_false (by omega)
 have d2 : decide ((16 : Int) < (n.length : Int)) = false := decide_eq_false (by omega)
 have d1' : decide (n.length < 1) = false := decide_eq_false (by omega)
 have d2' : decide (16 < n.length) = false := decide_eq_false (by omega)
 have vn : (lo == hi) = false := beq_eq_false_iff_ne.2 hne
 clear h1 h2 hne
 have HES := Lib.hid hes
 have HM := Lib.hid hm
 clear hes hm
 have hsz : (w.alloc (.cells #[.int .i64 3, .int .i64 lo, .int .i64 hi, .string ⟨#[]⟩, .string ⟨#[]⟩, .bool false, .slice A m c] 29)).heap.size = w.heap.size + 1 := by simp
 have X := Lib.hid (Blk.new w 29 #[.int .i64 3, .int .i64 lo, .int .i64 hi, .string ⟨#[]⟩, .string ⟨#[]⟩, .bool false, .slice A m c])
 have BB := Lib.hid (gr1 w (.cells #[.int .i64 3, .int .i64 lo, .int .i64 hi, .string ⟨#[]⟩, .string ⟨#[]⟩, .bool false, .slice A m c] 29)).below
 have O : Hid (OwnQ (w.alloc (.cells #[.int .i64 3, .int .i64 lo, .int .i64 hi, .string ⟨#[]⟩, .string ⟨#[]⟩, .bool false, .slice A m c] 29)) (w.heap.size + 1) (.slice none 0 0) []) := OwnK.none_ _ _
 go_enter Try.func17, Try.ntmps17
 obtain ⟨a0, a1, a2, a3, a4, a5, a6, _⟩ := blk7 X.out
 have hlX := X.out.lt
 go_wp2_with fail
 refine (hE _).mono ?_
 rintro e w1 ⟨v1, rfl, ho, hb⟩
 rw [hsz] at ho
 obtain ⟨B1, d1x, hv1, hd1, _⟩ := OwnK.form ho (n := l.length) rfl
 subst hv1
 clear a0 a1 a2 a3 a4 a5 a6 hlX
 replace BB := Lib.hid (below_next BB.out (Nat.le_refl _) hb)
 replace X := Lib.hid (Blk.below X.out hb X.out.lt)
 replace O := Lib.hid ho
 clear ho hb hsz
 go_wp2_with fail
 go_loopg [5, 6] m (fun gg s5 s6 wr => ∃ (q k d : Nat) (B2 : Option Addr) (out : List Pr), q <= m /\ m - q <= gg /\ s6 = .int .i64 (q : Int) /\ s5 = .slice B2 k d /\ k <= 4 + q /\ k <= d /\ Hid (out = l ++ (es.take q).map fun v => (⟨n, 2, v.k, v.i, v.t⟩ : Pr)) /\ Hid (out.length = k) /\ Hid (OwnQ wr (w.heap.size + 1) (.slice B2 k d) out) /\ Hid (Blk wr w.heap.size 29 #[.int .i64 3, .int .i64 lo, .int .i64 hi, .string ⟨#[]⟩, .string ⟨#[]⟩, .bool false, .slice A m c]) /\ Hid (Below w.heap.size w wr))
 case atStart => exact ⟨0, l.length, d1x, B1, l, Nat.zero_le _, by omega, rfl, rfl, by omega, hd1, by show _ = _; simp, rfl, O, X, BB⟩
 case round =>
  clear O X BB
  obtain ⟨q, k, d, B2, out, hq, hgg, rfl, rfl, hk4, hkd, HOUT, HK, O, X, BB⟩ := hrel
  obtain ⟨a0, a1, a2, a3, a4, a5, a6, _⟩ := blk7 X.out
  have hlX := X.out.lt
  by_cases hlt : q < m
  ·have hq' : q < es.length := by rw [HM.out]; exact hlt
   obtain ⟨gs, off, hA, hg, c0, c1, c2⟩ := RdW.at3 (RdK.below HES.out BB.out) hq'
   obtain ⟨x, hx⟩ : ∃ x, es[q] = x := ⟨_, rfl⟩
   have HX := Lib.hid hx
   rw [hx] at c0 c1 c2
   clear hx
   obtain ⟨xk, xi, xt⟩ := x
   dsimp only at c0 c1 c2
   subst hA
   have w5 : (q : Int) < (m : Int) := by omega
   have hrx1 := rdk_one layP wr ⟨n, 2, xk, xi, xt⟩ 38 #[.string ⟨n.toArray⟩, .int .i64 2, .int .i64 xk, .int .i64 xi, .string ⟨xt.toArray⟩] rfl
   have hbx1 : Below wr.heap.size wr (wr.alloc (.cells #[.string ⟨n.toArray⟩, .int .i64 2, .int .i64 xk, .int .i64 xi, .string ⟨xt.toArray⟩] 38)) := (gr1 wr _).below
   have ho1 := OwnK.below O.out hbx1
   have hs1 : w.heap.size + 1 <= (wr.alloc (.cells #[.string ⟨n.toArray⟩, .int .i64 2, .int .i64 xk, .int .i64 xi, .string ⟨xt.toArray⟩] 38)).heap.size := by have h1 := hbx1.size; have h2 := X.out.lt; omega
   have hbb1 : Below (w.heap.size + 1) wr (wr.alloc (.cells #[.string ⟨n.toArray⟩, .int .i64 2, .int .i64 xk, .int .i64 xi, .string ⟨xt.toArray⟩] 38)) := hbx1.mono (by have h2 := X.out.lt; omega)
   go_wp2_with (first | (at_builtin; refine wpList_append_k layP (by rfl) (.tmp 77) (.tmp 85) 22 underQ rfl (w.heap.size + 1) _ (out) (by rfl) ho1 _ [⟨n, 2, xk, xi, xt⟩] 1 1 (by rfl) hrx1 rfl (by rw [maxLen_num]; rw [HK.out]; omega) (by simp only [layP]; rw [HK.out]; omega) hs1 ?_; intro v1 x1 o1 b1 g1 l1; have hB1 := b1 _ hbb1; have hX1 := Blk.below X.out hB1 (Nat.lt_succ_self _); obtain ⟨a0, a1, a2, a3, a4, a5, a6, _⟩ := blk7 hX1; have hlX := hX1.lt; clear hrx1 hs1 ho1 b1 g1 l1))
   have hl9 : (out ++ [(⟨n, 2, xk, xi, xt⟩ : Pr)]).length = k + 1 := by rw [List.length_append, HK.out]; rfl
   have HOUT2 : Hid (out ++ [(⟨n, 2, xk, xi, xt⟩ : Pr)] = l ++ (es.take (q + 1)).map fun v => (⟨n, 2, v.k, v.i, v.t⟩ : Pr)) := by
    show _ = _
    rw [List.take_succ_eq_append_getElem hq', List.map_append, HOUT.out, HX.out, List.append_assoc]
    rfl
   obtain ⟨B9, d9, hv9, hd9, _⟩ := OwnK.form o1 hl9
   subst hv9
   have O9 := Lib.hid o1
   have X9 := Lib.hid hX1
   have BB9 := Lib.hid (BB.out.trans (hB1.mono (Nat.le_succ _)))
   have HL9 := Lib.hid hl9
   clear o1 hX1 hB1 hl9
   go_wp2_with fail
   go_roundg (m - (q + 1))
   case measure => omega
   case rel => exact ⟨q + 1, k + 1, d9, B9, _, by omega, Nat.le_refl _, by go_num, rfl, by omega, hd9, HOUT2, HL9, O9, X9, BB9⟩
  ·have hqm : q = m := by omega
   have HO2 : Hid (out = l ++ es.map fun v => (⟨n, 2, v.k, v.i, v.t⟩ : Pr)) := by
    show _ = _
    rw [HOUT.out, hqm, List.take_of_length_le (by rw [HM.out]; exact Nat.le_refl _)]
   clear HOUT hqm
   by_cases hk0 : k = 0
   ·subst hk0
    have HE0 : Hid (out = []) := List.eq_nil_of_length_eq_zero HK.out
    go_wp2_with fail
    go_ret
    refine ⟨_, rfl, ?_, ?_⟩
    ·rw [<- HO2.out, HE0.out]
     have h := own_litK layP (wr.alloc (.cells #[.int .i64 3, .int .i64 0, .string ⟨#[]⟩] 24)) w.heap.size (by have := BB.out.size; simp; omega) ⟨n, 6, 3, 0, []⟩ rfl
     rw [show (wr.alloc (.cells #[.int .i64 3, .int .i64 0, .string ⟨#[]⟩] 24)).heap.size = wr.heap.size + 1 by simp] at h
     rw [show orP [] (⟨n, 6, 3, 0, []⟩ : Pr) = [⟨n, 6, 3, 0, []⟩] from if_pos rfl]
     exact h
    ·exact below_next BB.out (Nat.le_refl _) (gr2 _ _ _).below
   ·have hk1 : 0 < k := by omega
    have hk2 : (0 : Int) < (k : Int) := by omega
    have HE0 : Hid (out ≠ []) := fun e => by have := HK.out; rw [e] at this; simp at this; omega
    go_wp2_with fail
    go_ret
    refine ⟨_, rfl, ?_, BB.out⟩
    rw [<- HO2.out]
    unfold orP
    rw [if_neg HE0.out]
    exact O.out.less (Nat.le_succ _)
set_option maxRecDepth 100000 in
set_option maxHeartbeats 4000000 in
theorem rprs_mO (n : List UInt8) (f t : List UInt8) (A : Option Addr) (m c : Nat) (es : List Val) (l : List Pr) (hl : l.length <= 4) (hE : ∀ W, Calls Try.prog 39 #[.string ⟨n.toArray⟩, .agg #[.int .i64 2, .int .i64 0, .int .i64 0, .string ⟨f.toArray⟩, .string ⟨t.toArray⟩, .bool true, .slice A m c]] W (GivesQ W l)) (h1 : 1 <= n.length) (h2 : n.length <= 16) (hm : es.length = m) (hmm : m <= 1000) (w : World) (hes : RdW w A es) :
  Calls Try.prog 17 #[.string ⟨n.toArray⟩, .agg #[.int .i64 2, .int .i64 0, .int .i64 0, .string ⟨f.toArray⟩, .string ⟨t.toArray⟩, .bool true, .slice A m c]] w (GivesQ w (orP (l ++ es.map fun v => (⟨n, 2, v.k, v.i, v.t⟩ : Pr)) ⟨n, 6, 2, 0, []⟩)) := by
 have d1 : decide ((n.length : Int) < 1) = false := decide_eq_false (by omega)
 have d2 : decide ((16 : Int) < (n.length : Int)) = false := decide_eq_false (by omega)
 have d1' : decide (n.length < 1) = false := decide_eq_false (by omega)
 have d2' : decide (16 < n.length) = false := decide_eq_false (by omega)
 clear h1 h2
 have HES := Lib.hid hes
 have HM := Lib.hid hm
 clear hes hm
 have hsz : (w.alloc (.cells #[.int .i64 2, .int .i64 0, .int .i64 0, .string ⟨f.toArray⟩, .string ⟨t.toArray⟩, .bool true, .slice A m c] 29)).heap.size = w.heap.size + 1 := by simp
 have X := Lib.hid (Blk.new w 29 #[.int .i64 2, .int .i64 0, .int .i64 0, .string ⟨f.toArray⟩, .string ⟨t.toArray⟩, .bool true, .slice A m c])
 have BB := Lib.hid (gr1 w (.cells #[.int .i64 2, .int .i64 0, .int .i64 0, .string ⟨f.toArray⟩, .string ⟨t.toArray⟩, .bool true, .slice A m c] 29)).below
 have O : Hid (OwnQ (w.alloc (.cells #[.int .i64 2, .int .i64 0, .int .i64 0, .string ⟨f.toArray⟩, .string ⟨t.toArray⟩, .bool true, .slice A m c] 29)) (w.heap.size + 1) (.slice none 0 0) []) := OwnK.none_ _ _
 go_enter Try.func17, Try.ntmps17
 obtain ⟨a0, a1, a2, a3, a4, a5, a6, _⟩ := blk7 X.out
 have hlX := X.out.lt
 go_wp2_with fail
 refine (hE _).mono ?_
 rintro e w1 ⟨v1, rfl, ho, hb⟩
 rw [hsz] at ho
 obtain ⟨B1, d1x, hv1, hd1, _⟩ := OwnK.form ho (n := l.length) rfl
 subst hv1
 clear a0 a1 a2 a3 a4 a5 a6 hlX
 replace BB := Lib.hid (below_next BB.out (Nat.le_refl _) hb)
 replace X := Lib.hid (Blk.below X.out hb X.out.lt)
 replace O := Lib.hid ho
 clear ho hb hsz
 go_wp2_with fail
 go_loopg [5, 6] m (fun gg s5 s6 wr => ∃ (q k d : Nat) (B2 : Option Addr) (out : List Pr), q <= m /\ m - q <= gg /\ s6 = .int .i64 (q : Int) /\ s5 = .slice B2 k d /\ k <= 4 + q /\ k <= d /\ Hid (out = l ++ (es.take q).map fun v => (⟨n, 2, v.k, v.i, v.t⟩ : Pr)) /\ Hid (out.length = k) /\ Hid (OwnQ wr (w.heap.size + 1) (.slice B2 k d) out) /\ Hid (Blk wr w.heap.size 29 #[.int .i64 2, .int .i64 0, .int .i64 0, .string ⟨f.toArray⟩, .string ⟨t.toArray⟩, .bool true, .slice A m c]) /\ Hid (Below w.heap.size w wr))
 case atStart => exact ⟨0, l.length, d1x, B1, l, Nat.zero_le _, by omega, rfl, rfl, by omega, hd1, by show _ = _; simp, rfl, O, X, BB⟩
 case round =>
  clear O X BB
  obtain ⟨q, k, d, B2, out, hq, hgg, rfl, rfl, hk4, hkd, HOUT, HK, O, X, BB⟩ := hrel
  obtain ⟨a0, a1, a2, a3, a4, a5, a6, _⟩ := blk7 X.out
  have hlX := X.out.lt
  by_cases hlt : q < m
  ·have hq' : q < es.length := by rw [HM.out]; exact hlt
   obtain ⟨gs, off, hA, hg, c0, c1, c2⟩ := RdW.at3 (RdK.below HES.out BB.out) hq'
   obtain ⟨x, hx⟩ : ∃ x, es[q] = x := ⟨_, rfl⟩
   have HX := Lib.hid hx
   rw [hx] at c0 c1 c2
   clear hx
   obtain ⟨xk, xi, xt⟩ := x
   dsimp only at c0 c1 c2
   subst hA
   have w5 : (q : Int) < (m : Int) := by omega
   have hrx1 := rdk_one layP wr ⟨n, 2, xk, xi, xt⟩ 38 #[.string ⟨n.toArray⟩, .int .i64 2, .int .i64 xk, .int .i64 xi, .string ⟨xt.toArray⟩] rfl
   have hbx1 : Below wr.heap.size wr (wr.alloc (.cells #[.string ⟨n.toArray⟩, .int .i64 2, .int .i64 xk, .int .i64 xi, .string ⟨xt.toArray⟩] 38)) := (gr1 wr _).below
   have ho1 := OwnK.below O.out hbx1
   have hs1 : w.heap.size + 1 <= (wr.alloc (.cells #[.string ⟨n.toArray⟩, .int .i64 2, .int .i64 xk, .int .i64 xi, .string ⟨xt.toArray⟩] 38)).heap.size := by have h1 := hbx1.size; have h2 := X.out.lt; omega
   have hbb1 : Below (w.heap.size + 1) wr (wr.alloc (.cells #[.string ⟨n.toArray⟩, .int .i64 2, .int .i64 xk, .int .i64 xi, .string ⟨xt.toArray⟩] 38)) := hbx1.mono (by have h2 := X.out.lt; omega)
   go_wp2_with (first | (at_builtin; refine wpList_append_k layP (by rfl) (.tmp 77) (.tmp 85) 22 underQ rfl (w.heap.size + 1) _ (out) (by rfl) ho1 _ [⟨n, 2, xk, xi, xt⟩] 1 1 (by rfl) hrx1 rfl (by rw [maxLen_num]; rw [HK.out]; omega) (by simp only [layP]; rw [HK.out]; omega) hs1 ?_; intro v1 x1 o1 b1 g1 l1; have hB1 := b1 _ hbb1; have hX1 := Blk.below X.out hB1 (Nat.lt_succ_self _); obtain ⟨a0, a1, a2, a3, a4, a5, a6, _⟩ := blk7 hX1; have hlX := hX1.lt; clear hrx1 hs1 ho1 b1 g1 l1))
   have hl9 : (out ++ [(⟨n, 2, xk, xi, xt⟩ : Pr)]).length = k + 1 := by rw [List.length_append, HK.out]; rfl
   have HOUT2 : Hid (out ++ [(⟨n, 2, xk, xi, xt⟩ : Pr)] = l ++ (es.take (q + 1)).map fun v => (⟨n, 2, v.k, v.i, v.t⟩ : Pr)) := by
    show _ = _
    rw [List.take_succ_eq_append_getElem hq', List.map_append, HOUT.out, HX.out, List.append_assoc]
    rfl
   obtain ⟨B9, d9, hv9, hd9, _⟩ := OwnK.form o1 hl9
   subst hv9
   have O9 := Lib.hid o1
   have X9 := Lib.hid hX1
   have BB9 := Lib.hid (BB.out.trans (hB1.mono (Nat.le_succ _)))
   have HL9 := Lib.hid hl9
   clear o1 hX1 hB1 hl9
   go_wp2_with fail
   go_roundg (m - (q + 1))
   case measure => omega
   case rel => exact ⟨q + 1, k + 1, d9, B9, _, by omega, Nat.le_refl _, by go_num, rfl, by omega, hd9, HOUT2, HL9, O9, X9, BB9⟩
  ·have hqm : q = m := by omega
   have HO2 : Hid (out = l ++ es.map fun v => (⟨n, 2, v.k, v.i, v.t⟩ : Pr)) := by
    show _ = _
    rw [HOUT.out, hqm, List.take_of_length_le (by rw [HM.out]; exact Nat.le_refl _)]
   clear HOUT hqm
   by_cases hk0 : k = 0
   ·subst hk0
    have HE0 : Hid (out = []) := List.eq_nil_of_length_eq_zero HK.out
    go_wp2_with fail
    go_ret
    refine ⟨_, rfl, ?_, ?_⟩
    ·rw [<- HO2.out, HE0.out]
     have h := own_litK layP (wr.alloc (.cells #[.int .i64 2, .int .i64 0, .string ⟨#[]⟩] 24)) w.heap.size (by have := BB.out.size; simp; omega) ⟨n, 6, 2, 0, []⟩ rfl
     rw [show (wr.alloc (.cells #[.int .i64 2, .int .i64 0, .string ⟨#[]⟩] 24)).heap.size = wr.heap.size + 1 by simp] at h
     rw [show orP [] (⟨n, 6, 2, 0, []⟩ : Pr) = [⟨n, 6, 2, 0, []⟩] from if_pos rfl]
     exact h
    ·exact below_next BB.out (Nat.le_refl _) (gr2 _ _ _).below
   ·have hk1 : 0 < k := by omega
    have hk2 : (0 : Int) < (k : Int) := by omega
    have HE0 : Hid (out ≠ []) := fun e => by have := HK.out; rw [e] at this; simp at this; omega
    go_wp2_with fail
    go_ret
    refine ⟨_, rfl, ?_, BB.out⟩
    rw [<- HO2.out]
    unfold orP
    rw [if_neg HE0.out]
    exact O.out.less (Nat.le_succ _)
set_option maxRecDepth 100000 in
set_option maxHeartbeats 4000000 in
theorem rprs_mT (n : List UInt8) (f t : List UInt8) (hf : f.length <= 100) (hne : t ≠ f ++ [0]) (A : Option Addr) (m c : Nat) (es : List Val) (l : List Pr) (hl : l.length <= 4) (hE : ∀ W, Calls Try.prog 39 #[.string ⟨n.toArray⟩, .agg #[.int .i64 2, .int .i64 0, .int .i64 0, .string ⟨f.toArray⟩, .string ⟨t.toArray⟩, .bool false, .slice A m c]] W (GivesQ W l)) (h1 : 1 <= n.length) (h2 : n.length <= 16) (hm : es.length = m) (hmm : m <= 1000) (w : World) (hes : RdW w A es) :
  Calls Try.prog 17 #[.string ⟨n.toArray⟩, .agg #[.int .i64 2, .int .i64 0, .int .i64 0, .string ⟨f.toArray⟩, .string ⟨t.toArray⟩, .bool false, .slice A m c]] w (GivesQ w (orP (l ++ es.map fun v => (⟨n, 2, v.k, v.i, v.t⟩ : Pr)) ⟨n, 6, 2, 0, []⟩)) := by
 have d1 : decide ((n.length : Int) < 1) = false := decide_eq_false (by omega)
 have d2 : decide ((16 : Int) < (n.length : Int)) = false := decide_eq_false (by omega)
 have d1' : decide (n.length < 1) = false := decide_eq_false (by omega)
 have d2' : decide (16 < n.length) = false := decide_eq_false (by omega)
 have hap := ba_app0 f
 have hno : ¬ 9223372036854775807 < f.length + 1 := by omega
 have vn : (t == f ++ [0]) = false := by simpa using hne
 clear h1 h2 hne hf
 have HES := Lib.hid hes
 have HM := Lib.hid hm
 clear hes hm
 have hsz : (w.alloc (.cells #[.int .i64 2, .int .i64 0, .int .i64 0, .string ⟨f.toArray⟩, .string ⟨t.toArray⟩, .bool false, .slice A m c] 29)).heap.size = w.heap.size + 1 := by simp
 have X := Lib.hid (Blk.new w 29 #[.int .i64 2, .int .i64 0, .int .i64 0, .string ⟨f.toArray⟩, .string ⟨t.toArray⟩, .bool false, .slice A m c])
 have BB := Lib.hid (gr1 w (.cells #[.int .i64 2, .int .i64 0, .int .i64 0, .string ⟨f.toArray⟩, .string ⟨t.toArray⟩, .bool false, .slice A m c] 29)).below
 have O : Hid (OwnQ (w.alloc (.cells #[.int .i64 2, .int .i64 0, .int .i64 0, .string ⟨f.toArray⟩, .string ⟨t.toArray⟩, .bool false, .slice A m c] 29)) (w.heap.size + 1) (.slice none 0 0) []) := OwnK.none_ _ _
 go_enter Try.func17, Try.ntmps17
 obtain ⟨a0, a1, a2, a3, a4, a5, a6, _⟩ := blk7 X.out
 have hlX := X.out.lt
 go_wp2_with fail
 refine (hE _).mono ?_
 rintro e w1 ⟨v1, rfl, ho, hb⟩
 rw [hsz] at ho
 obtain ⟨B1, d1x, hv1, hd1, _⟩ := OwnK.form ho (n := l.length) rfl
 subst hv1
 clear a0 a1 a2 a3 a4 a5 a6 hlX
 replace BB := Lib.hid (below_next BB.out (Nat.le_refl _) hb)
 replace X := Lib.hid (Blk.below X.out hb X.out.lt)
 replace O := Lib.hid ho
 clear ho hb hsz
 go_wp2_with fail
 go_loopg [5, 6] m (fun gg s5 s6 wr => ∃ (q k d : Nat) (B2 : Option Addr) (out : List Pr), q <= m /\ m - q <= gg /\ s6 = .int .i64 (q : Int) /\ s5 = .slice B2 k d /\ k <= 4 + q /\ k <= d /\ Hid (out = l ++ (es.take q).map fun v => (⟨n, 2, v.k, v.i, v.t⟩ : Pr)) /\ Hid (out.length = k) /\ Hid (OwnQ wr (w.heap.size + 1) (.slice B2 k d) out) /\ Hid (Blk wr w.heap.size 29 #[.int .i64 2, .int .i64 0, .int .i64 0, .string ⟨f.toArray⟩, .string ⟨t.toArray⟩, .bool false, .slice A m c]) /\ Hid (Below w.heap.size w wr))
 case atStart => exact ⟨0, l.length, d1x, B1, l, Nat.zero_le _, by omega, rfl, rfl, by omega, hd1, by show _ = _; simp, rfl, O, X, BB⟩
 case round =>
  clear O X BB
  obtain ⟨q, k, d, B2, out, hq, hgg, rfl, rfl, hk4, hkd, HOUT, HK, O, X, BB⟩ := hrel
  obtain ⟨a0, a1, a2, a3, a4, a5, a6, _⟩ := blk7 X.out
  have hlX := X.out.lt
  by_cases hlt : q < m
  ·have hq' : q < es.length := by rw [HM.out]; exact hlt
   obtain ⟨gs, off, hA, hg, c0, c1, c2⟩ := RdW.at3 (RdK.below HES.out BB.out) hq'
   obtain ⟨x, hx⟩ : ∃ x, es[q] = x := ⟨_, rfl⟩
   have HX := Lib.hid hx
   rw [hx] at c0 c1 c2
   clear hx
   obtain ⟨xk, xi, xt⟩ := x
   dsimp only at c0 c1 c2
   subst hA
   have w5 : (q : Int) < (m : Int) := by omega
   have hrx1 := rdk_one layP wr ⟨n, 2, xk, xi, xt⟩ 38 #[.string ⟨n.toArray⟩, .int .i64 2, .int .i64 xk, .int .i64 xi, .string ⟨xt.toArray⟩] rfl
   have hbx1 : Below wr.heap.size wr (wr.alloc (.cells #[.string ⟨n.toArray⟩, .int .i64 2, .int .i64 xk, .int .i64 xi, .string ⟨xt.toArray⟩] 38)) := (gr1 wr _).below
   have ho1 := OwnK.below O.out hbx1
   have hs1 : w.heap.size + 1 <= (wr.alloc (.cells #[.string ⟨n.toArray⟩, .int .i64 2, .int .i64 xk, .int .i64 xi, .string ⟨xt.toArray⟩] 38)).heap.size := by have h1 := hbx1.size; have h2 := X.out.lt; omega
   have hbb1 : Below (w.heap.size + 1) wr (wr.alloc (.cells #[.string ⟨n.toArray⟩, .int .i64 2, .int .i64 xk, .int .i64 xi, .string ⟨xt.toArray⟩] 38)) := hbx1.mono (by have h2 := X.out.lt; omega)
   go_wp2_with (first | (at_builtin; refine wpList_append_k layP (by rfl) (.tmp 77) (.tmp 85) 22 underQ rfl (w.heap.size + 1) _ (out) (by rfl) ho1 _ [⟨n, 2, xk, xi, xt⟩] 1 1 (by rfl) hrx1 rfl (by rw [maxLen_num]; rw [HK.out]; omega) (by simp only [layP]; rw [HK.out]; omega) hs1 ?_; intro v1 x1 o1 b1 g1 l1; have hB1 := b1 _ hbb1; have hX1 := Blk.below X.out hB1 (Nat.lt_succ_self _); obtain ⟨a0, a1, a2, a3, a4, a5, a6, _⟩ := blk7 hX1; have hlX := hX1.lt; clear hrx1 hs1 ho1 b1 g1 l1))
   have hl9 : (out ++ [(⟨n, 2, xk, xi, xt⟩ : Pr)]).length = k + 1 := by rw [List.length_append, HK.out]; rfl
   have HOUT2 : Hid (out ++ [(⟨n, 2, xk, xi, xt⟩ : Pr)] = l ++ (es.take (q + 1)).map fun v => (⟨n, 2, v.k, v.i, v.t⟩ : Pr)) := by
    show _ = _
    rw [List.take_succ_eq_append_getElem hq', List.map_append, HOUT.out, HX.out, List.append_assoc]
    rfl
   obtain ⟨B9, d9, hv9, hd9, _⟩ := OwnK.form o1 hl9
   subst hv9
   have O9 := Lib.hid o1
   have X9 := Lib.hid hX1
   have BB9 := Lib.hid (BB.out.trans (hB1.mono (Nat.le_succ _)))
   have HL9 := Lib.hid hl9
   clear o1 hX1 hB1 hl9
   go_wp2_with fail
   go_roundg (m - (q + 1))
   case measure => omega
   case rel => exact ⟨q + 1, k + 1, d9, B9, _, by omega, Nat.le_refl _, by go_num, rfl, by omega, hd9, HOUT2, HL9, O9, X9, BB9⟩
  ·have hqm : q = m := by omega
   have HO2 : Hid (out = l ++ es.map fun v => (⟨n, 2, v.k, v.i, v.t⟩ : Pr)) := by
    show _ = _
    rw [HOUT.out, hqm, List.take_of_length_le (by rw [HM.out]; exact Nat.le_refl _)]
   clear HOUT hqm
   by_cases hk0 : k = 0
   ·subst hk0
    have HE0 : Hid (out = []) := List.eq_nil_of_length_eq_zero HK.out
    go_wp2_with fail
    go_ret
    refine ⟨_, rfl, ?_, ?_⟩
    ·rw [<- HO2.out, HE0.out]
     have h := own_litK layP (wr.alloc (.cells #[.int .i64 2, .int .i64 0, .string ⟨#[]⟩] 24)) w.heap.size (by have := BB.out.size; simp; omega) ⟨n, 6, 2, 0, []⟩ rfl
     rw [show (wr.alloc (.cells #[.int .i64 2, .int .i64 0, .string ⟨#[]⟩] 24)).heap.size = wr.heap.size + 1 by simp] at h
     rw [show orP [] (⟨n, 6, 2, 0, []⟩ : Pr) = [⟨n, 6, 2, 0, []⟩] from if_pos rfl]
     exact h
    ·exact below_next BB.out (Nat.le_refl _) (gr2 _ _ _).below
   ·have hk1 : 0 < k := by omega
    have hk2 : (0 : Int) < (k : Int) := by omega
    have HE0 : Hid (out ≠ []) := fun e => by have := HK.out; rw [e] at this; simp at this; omega
    go_wp2_with fail
    go_ret
    refine ⟨_, rfl, ?_, BB.out⟩
    rw [<- HO2.out]
    unfold orP
    rw [if_neg HE0.out]
    exact O.out.less (Nat.le_succ _)
theorem rends_text (n f t : List UInt8) (o : Bool) (no : List Val) (hf : f.length <= 100) (ht : t.length <= 100) (ho : o = true -> t = []) (A : Option Addr) (m c : Nat) (w : World) :
  Calls Try.prog 39 #[.string ⟨n.toArray⟩, spF 2 0 0 f t o A m c] w (GivesQ w (frmP n ⟨2, 0, 0, f, t, o, no⟩ ++ toP n ⟨2, 0, 0, f, t, o, no⟩)) := by
 have hT1 : ∀ f', toP n ⟨2, 0, 0, f', t, true, no⟩ = [] := fun f' => by unfold toP; rw [if_pos rfl]
 cases hz : zeroEnd f with
 | some u =>
  obtain rfl := (zeroEnd_iff f u).1 hz
  have hu : u.length <= 100 := by simp at hf; omega
  have e1 : ∀ t' o', frmP n ⟨2, 0, 0, u ++ [0], t', o', no⟩ = [⟨n, 5, 2, 0, u⟩] := fun t' o' => by unfold frmP; simp only [hz]
  cases o with
  | true =>
   obtain rfl := ho rfl
   rw [e1, hT1]
   exact rends_ZO n u hu A m c w
  | false =>
   cases hx : zeroEnd t with
   | some x =>
    obtain rfl := (zeroEnd_iff t x).1 hx
    have hxl : x.length <= 100 := by simp at ht; omega
    rw [e1, show toP n ⟨2, 0, 0, u ++ [0], x ++ [0], false, no⟩ = [⟨n, 4, 2, 0, x⟩] by unfold toP; simp only [hx]; rfl]
    exact rends_ZZ n u hu x hxl A m c w
   | none =>
    rw [e1, show toP n ⟨2, 0, 0, u ++ [0], t, false, no⟩ = [⟨n, 3, 2, 0, t⟩] by unfold toP; simp only [hx]; rfl]
    exact rends_ZN n u hu t ht hx A m c w
 | none =>
  by_cases hf0 : f = []
  ·subst hf0
   have e1 : ∀ t' o', frmP n ⟨2, 0, 0, [], t', o', no⟩ = [] := fun t' o' => by unfold frmP; simp only [hz]; simp
   cases o with
   | true =>
    obtain rfl := ho rfl
    rw [e1, hT1]
    exact rends_EO n  A m c w
   | false =>
    cases hx : zeroEnd t with
    | some x =>
     obtain rfl := (zeroEnd_iff t x).1 hx
     have hxl : x.length <= 100 := by simp at ht; omega
     rw [e1, show toP n ⟨2, 0, 0, [], x ++ [0], false, no⟩ = [⟨n, 4, 2, 0, x⟩] by unfold toP; simp only [hx]; rfl]
     exact rends_EZ n  x hxl A m c w
    | none =>
     rw [e1, show toP n ⟨2, 0, 0, [], t, false, no⟩ = [⟨n, 3, 2, 0, t⟩] by unfold toP; simp only [hx]; rfl]
     exact rends_EN n  t ht hx A m c w
  ·have e1 : ∀ t' o', frmP n ⟨2, 0, 0, f, t', o', no⟩ = [⟨n, 6, 2, 0, f⟩] := fun t' o' => by unfold frmP; simp only [hz]; rw [if_neg hf0]
   cases o with
   | true =>
    obtain rfl := ho rfl
    rw [e1, hT1]
    exact rends_NO n f hf hf0 hz A m c w
   | false =>
    cases hx : zeroEnd t with
    | some x =>
     obtain rfl := (zeroEnd_iff t x).1 hx
     have hxl : x.length <= 100 := by simp at ht; omega
     rw [e1, show toP n ⟨2, 0, 0, f, x ++ [0], false, no⟩ = [⟨n, 4, 2, 0, x⟩] by unfold toP; simp only [hx]; rfl]
     exact rends_NZ n f hf hf0 hz x hxl A m c w
    | none =>
     rw [e1, show toP n ⟨2, 0, 0, f, t, false, no⟩ = [⟨n, 3, 2, 0, t⟩] by unfold toP; simp only [hx]; rfl]
     exact rends_NN n f hf hf0 hz t ht hx A m c w
theorem rprs_at (n : List UInt8) (a : Sp) (ha : Canon a) (A : Option Addr) (m c : Nat) (hm : a.no.length = m) (hmm : m <= 1000) (w : World) (hr : RdW w A a.no) :
  Calls Try.prog 17 #[.string ⟨n.toArray⟩, spF a.kind a.lo a.hi a.frm a.to_ a.opn A m c] w (GivesQ w (prs n a)) := by
 by_cases h0 : a.kind = 0
 ·have e : prs n a = [] := by unfold prs predsOf; rw [if_pos h0]; simp
  have e' : a = none_ := kind_none ha h0
  rw [e]; subst e'
  exact rprs_none n 0 0 [] [] false A m c w
 by_cases hn1 : n.length < 1
 ·have e : prs n a = [] := by unfold prs; rw [if_neg (by omega)]
  rw [e]
  exact rprs_name0 n a.kind a.lo a.hi a.frm a.to_ a.opn h0 hn1 A m c w
 by_cases hn2 : 16 < n.length
 ·have e : prs n a = [] := by unfold prs; rw [if_neg (by omega)]
  rw [e]
  exact rprs_name1 n a.kind a.lo a.hi a.frm a.to_ a.opn h0 hn2 A m c w
 have h1 : 1 <= n.length := by omega
 have h2 : n.length <= 16 := by omega
 have e0 : prs n a = predsOf n a := by unfold prs; rw [if_pos ⟨h1, h2⟩]
 rw [e0]
 rcases ha with rfl | rfl | ha | ha
 ·exact absurd rfl h0
 ·exact rprs_any n 0 0 [] [] false h1 h2 A m c w
 ·obtain ⟨K, lo, hi, f, t, o, no⟩ := a
  obtain rfl : f = [] := ha.frm
  obtain rfl : t = [] := ha.to_
  obtain rfl : o = false := ha.opn
  have hkk : K = 1 ∨ K = 3 := ha.kind
  dsimp only at hr hm
  by_cases hlh : lo = hi
  ·subst hlh
   rcases hkk with rfl | rfl
   ·rw [show predsOf n ⟨1, lo, lo, [], [], false, no⟩ = [⟨n, 1, 1, lo, []⟩] by unfold predsOf; simp]
    exact rprs_one1 n lo h1 h2 A m c w
   ·rw [show predsOf n ⟨3, lo, lo, [], [], false, no⟩ = [⟨n, 1, 3, lo, []⟩] by unfold predsOf; simp]
    exact rprs_one3 n lo h1 h2 A m c w
  ·rcases hkk with rfl | rfl
   ·have e1 : predsOf n ⟨1, lo, hi, [], [], false, no⟩ = orP (loP n ⟨1, lo, hi, [], [], false, no⟩ ++ hiP n ⟨1, lo, hi, [], [], false, no⟩ ++ no.map fun v => (⟨n, 2, v.k, v.i, v.t⟩ : Pr)) ⟨n, 6, 1, -9223372036854775808, []⟩ := by unfold predsOf noP lowest; simp [hlh]
    rw [e1]
    by_cases ga : (-9223372036854775808) < lo
    ·have ea : loP n ⟨1, lo, hi, [], [], false, no⟩ = [⟨n, 6, 1, lo, []⟩] := by unfold loP; rw [if_pos ⟨rfl, ga⟩]
     by_cases gb : hi < 9223372036854775807
     ·have eb : hiP n ⟨1, lo, hi, [], [], false, no⟩ = [⟨n, 4, 1, hi, []⟩] := by unfold hiP; rw [if_pos ⟨rfl, gb⟩]
      rw [ea, eb]
      exact rprs_m1 n lo hi hlh A m c no _ (by simp) (fun W => rends_N11 n lo hi ga gb A m c W) h1 h2 hm hmm w hr
     ·have eb : hiP n ⟨1, lo, hi, [], [], false, no⟩ = [] := by unfold hiP; rw [if_neg (fun h => gb h.2)]
      rw [ea, eb]
      exact rprs_m1 n lo hi hlh A m c no _ (by simp) (fun W => rends_N10 n lo hi ga gb A m c W) h1 h2 hm hmm w hr
    ·have ea : loP n ⟨1, lo, hi, [], [], false, no⟩ = [] := by unfold loP; rw [if_neg (fun h => ga h.2)]
     by_cases gb : hi < 9223372036854775807
     ·have eb : hiP n ⟨1, lo, hi, [], [], false, no⟩ = [⟨n, 4, 1, hi, []⟩] := by unfold hiP; rw [if_pos ⟨rfl, gb⟩]
      rw [ea, eb]
      exact rprs_m1 n lo hi hlh A m c no _ (by simp) (fun W => rends_N01 n lo hi ga gb A m c W) h1 h2 hm hmm w hr
     ·have eb : hiP n ⟨1, lo, hi, [], [], false, no⟩ = [] := by unfold hiP; rw [if_neg (fun h => gb h.2)]
      rw [ea, eb]
      exact rprs_m1 n lo hi hlh A m c no _ (by simp) (fun W => rends_N00 n lo hi ga gb A m c W) h1 h2 hm hmm w hr
   ·have e1 : predsOf n ⟨3, lo, hi, [], [], false, no⟩ = orP ([] ++ no.map fun v => (⟨n, 2, v.k, v.i, v.t⟩ : Pr)) ⟨n, 6, 3, 0, []⟩ := by unfold predsOf noP lowest loP hiP; simp [hlh]
    rw [e1]
    exact rprs_m3 n lo hi hlh A m c no _ (by simp) (fun W => rends_3 n lo hi A m c W) h1 h2 hm hmm w hr
 ·have bd := canon_bd (.inr (.inr (.inr ha)))
  obtain ⟨K, lo, hi, f, t, o, no⟩ := a
  obtain rfl : K = 2 := ha.kind
  obtain rfl : lo = 0 := ha.lo
  obtain rfl : hi = 0 := ha.hi
  have hio : o = true -> t = [] := ha.isOpn
  dsimp only at hr hm bd
  have hll : (frmP n ⟨2, 0, 0, f, t, o, no⟩ ++ toP n ⟨2, 0, 0, f, t, o, no⟩).length <= 4 := by
   have h3 : (frmP n ⟨2, 0, 0, f, t, o, no⟩).length <= 1 := by
    unfold frmP; dsimp only
    split
    ·simp
    ·split <;> simp
   have h4 : (toP n ⟨2, 0, 0, f, t, o, no⟩).length <= 1 := by
    unfold toP; dsimp only
    split
    ·simp
    ·split <;> simp
   rw [List.length_append]; omega
  by_cases hone : o = false /\ t = f ++ [0]
  ·obtain ⟨rfl, rfl⟩ := hone
   rw [show predsOf n ⟨2, 0, 0, f, f ++ [0], false, no⟩ = [⟨n, 1, 2, 0, f⟩] by unfold predsOf; simp]
   exact rprs_oneT n f (by omega) h1 h2 A m c w
  ·have e1 : predsOf n ⟨2, 0, 0, f, t, o, no⟩ = orP (frmP n ⟨2, 0, 0, f, t, o, no⟩ ++ toP n ⟨2, 0, 0, f, t, o, no⟩ ++ no.map fun v => (⟨n, 2, v.k, v.i, v.t⟩ : Pr)) ⟨n, 6, 2, 0, []⟩ := by
    unfold predsOf noP
    rw [if_neg (show ¬ (2 : Int) = 0 by decide), if_neg (show ¬ (2 : Int) = 4 by decide), if_pos rfl, if_neg hone]
   rw [e1]
   cases o with
   | true => exact rprs_mO n f t A m c no _ hll (fun W => rends_text n f t true no (by omega) (by omega) hio A m c W) h1 h2 hm hmm w hr
   | false => exact rprs_mT n f t (by omega) (fun e => hone ⟨rfl, e⟩) A m c no _ hll (fun W => rends_text n f t false no (by omega) (by omega) hio A m c W) h1 h2 hm hmm w hr
end Go.Proofs.Ytoffnfooeojhnaa
