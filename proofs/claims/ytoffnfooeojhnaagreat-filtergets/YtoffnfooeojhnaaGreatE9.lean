/- Contracts of the program and of the document (REnd), each used further on. -/
import Derived.Test.YtoffnfooeojhnaaGreatC2
import Derived.Test.YtoffnfooeojhnaaGreatE5
set_option maxRecDepth 100000
set_option maxHeartbeats 4000000
namespace Go.Proofs.YtoffnfooeojhnaaGreat
open Go.RowKit Go.Sort Spans Op
theorem rzero_is (s : List UInt8) (hs : s.length <= 1000) (b : Bool) (hb : (zeroEnd s).isSome = b) (w : World) : Calls Tryz.prog 125 #[.string ⟨s.toArray⟩] w fun e w' => e = .returned (.bool b) /\ Grown w w' := by
 subst hb; exact rzero_at s hs w
theorem rends_N00 (n : List UInt8) (lo hi : Int) (ha : ¬ ((-9223372036854775808) < lo)) (hb : ¬ (hi < 9223372036854775807)) (A : Option Addr) (m c : Nat) (w : World) :
  Calls Tryz.prog 83 #[.string ⟨n.toArray⟩, .agg (sC 1 lo hi #[] #[] false A m c)] w (GivesQ w []) := by
 have d1 : decide ((-9223372036854775808) < lo) = false := decide_eq_false ha
 have d2 : decide (hi < 9223372036854775807) = false := decide_eq_false hb
 clear ha hb
 have X := Lib.hid (Blk.new w 81 (sC 1 lo hi #[] #[] false A m c))
 have BB := Lib.hid (gr1 w (.cells (sC 1 lo hi #[] #[] false A m c) 81)).below
 have O : Hid (OwnQ (w.alloc (.cells (sC 1 lo hi #[] #[] false A m c) 81)) (w.heap.size + 1) (.slice none 0 0) []) := OwnK.none_ _ _
 go_enter Tryz.func83, Tryz.ntmps83
 skip
 obtain ⟨a0, a1, a2, a3, a4, a5, a6, _⟩ := blk7 X.out
 have hlX := X.out.lt
 go_wp2_with fail
 go_ret
 exact ⟨_, rfl, (show OwnK layP _ _ _ [] from O.out.less (Nat.le_succ w.heap.size)), BB.out⟩
theorem rends_N01 (n : List UInt8) (lo hi : Int) (ha : ¬ ((-9223372036854775808) < lo)) (hb : (hi < 9223372036854775807)) (A : Option Addr) (m c : Nat) (w : World) :
  Calls Tryz.prog 83 #[.string ⟨n.toArray⟩, .agg (sC 1 lo hi #[] #[] false A m c)] w (GivesQ w [⟨n, 4, 1, hi, []⟩]) := by
 have d1 : decide ((-9223372036854775808) < lo) = false := decide_eq_false ha
 have d2 : decide (hi < 9223372036854775807) = true := decide_eq_true hb
 clear ha hb
 have X := Lib.hid (Blk.new w 81 (sC 1 lo hi #[] #[] false A m c))
 have BB := Lib.hid (gr1 w (.cells (sC 1 lo hi #[] #[] false A m c) 81)).below
 have O : Hid (OwnQ (w.alloc (.cells (sC 1 lo hi #[] #[] false A m c) 81)) (w.heap.size + 1) (.slice none 0 0) []) := OwnK.none_ _ _
 go_enter Tryz.func83, Tryz.ntmps83
 skip
 obtain ⟨a0, a1, a2, a3, a4, a5, a6, _⟩ := blk7 X.out
 have hlX := X.out.lt
 have hrx1 := rdk_one layP (w.alloc (.cells (sC 1 lo hi #[] #[] false A m c) 81)) ⟨n, 4, 1, hi, []⟩ 35 (pC n.toArray 4 1 hi #[]) rfl
 have hbx1 : Below (w.alloc (.cells (sC 1 lo hi #[] #[] false A m c) 81)).heap.size (w.alloc (.cells (sC 1 lo hi #[] #[] false A m c) 81)) ((w.alloc (.cells (sC 1 lo hi #[] #[] false A m c) 81)).alloc (.cells (pC n.toArray 4 1 hi #[]) 35)) := (gr1 (w.alloc (.cells (sC 1 lo hi #[] #[] false A m c) 81)) _).below
 have ho1 := OwnK.below O.out hbx1
 have hs1 : w.heap.size + 1 <= ((w.alloc (.cells (sC 1 lo hi #[] #[] false A m c) 81)).alloc (.cells (pC n.toArray 4 1 hi #[]) 35)).heap.size := by have h1 := hbx1.size; have h2 := X.out.lt; omega
 have hbb1 : Below (w.heap.size + 1) (w.alloc (.cells (sC 1 lo hi #[] #[] false A m c) 81)) ((w.alloc (.cells (sC 1 lo hi #[] #[] false A m c) 81)).alloc (.cells (pC n.toArray 4 1 hi #[]) 35)) := hbx1.mono (by have h2 := X.out.lt; omega)
 rw [show (w.alloc (.cells (sC 1 lo hi #[] #[] false A m c) 81)).heap.size = w.heap.size + 1 by simp] at hrx1
 go_wp2_with (first | (at_builtin; refine wpList_append_k layP (by rfl) (.tmp 30) (.tmp 36) 22 underQ rfl (w.heap.size + 1) _ ([]) (by rfl) ho1 _ [⟨n, 4, 1, hi, []⟩] 1 1 (by rfl) hrx1 rfl (by rw [maxLen_num]; show 0 + 1 <= _; omega) (by show (0 + 1) * 56 <= _; omega) hs1 ?_; intro v1 x1 o1 b1 g1 l1; have hB1 := b1 _ hbb1; have hX1 := Blk.below X.out hB1 (Nat.lt_succ_self _); obtain ⟨a0, a1, a2, a3, a4, a5, a6, _⟩ := blk7 hX1; have hlX := hX1.lt; clear hrx1 hs1 ho1 b1 g1 l1))
 replace X := Lib.hid hX1
 replace BB := Lib.hid (BB.out.trans (hB1.mono (Nat.le_succ _)))
 replace O := Lib.hid o1
 clear hX1 hB1 hbb1 hbx1 o1
 go_ret
 exact ⟨_, rfl, (show OwnK layP _ _ _ [⟨n, 4, 1, hi, []⟩] from O.out.less (Nat.le_succ w.heap.size)), BB.out⟩
theorem rends_N10 (n : List UInt8) (lo hi : Int) (ha : ((-9223372036854775808) < lo)) (hb : ¬ (hi < 9223372036854775807)) (A : Option Addr) (m c : Nat) (w : World) :
  Calls Tryz.prog 83 #[.string ⟨n.toArray⟩, .agg (sC 1 lo hi #[] #[] false A m c)] w (GivesQ w [⟨n, 6, 1, lo, []⟩]) := by
 have d1 : decide ((-9223372036854775808) < lo) = true := decide_eq_true ha
 have d2 : decide (hi < 9223372036854775807) = false := decide_eq_false hb
 clear ha hb
 have X := Lib.hid (Blk.new w 81 (sC 1 lo hi #[] #[] false A m c))
 have BB := Lib.hid (gr1 w (.cells (sC 1 lo hi #[] #[] false A m c) 81)).below
 have O : Hid (OwnQ (w.alloc (.cells (sC 1 lo hi #[] #[] false A m c) 81)) (w.heap.size + 1) (.slice none 0 0) []) := OwnK.none_ _ _
 go_enter Tryz.func83, Tryz.ntmps83
 skip
 obtain ⟨a0, a1, a2, a3, a4, a5, a6, _⟩ := blk7 X.out
 have hlX := X.out.lt
 have hrx1 := rdk_one layP (w.alloc (.cells (sC 1 lo hi #[] #[] false A m c) 81)) ⟨n, 6, 1, lo, []⟩ 35 (pC n.toArray 6 1 lo #[]) rfl
 have hbx1 : Below (w.alloc (.cells (sC 1 lo hi #[] #[] false A m c) 81)).heap.size (w.alloc (.cells (sC 1 lo hi #[] #[] false A m c) 81)) ((w.alloc (.cells (sC 1 lo hi #[] #[] false A m c) 81)).alloc (.cells (pC n.toArray 6 1 lo #[]) 35)) := (gr1 (w.alloc (.cells (sC 1 lo hi #[] #[] false A m c) 81)) _).below
 have ho1 := OwnK.below O.out hbx1
 have hs1 : w.heap.size + 1 <= ((w.alloc (.cells (sC 1 lo hi #[] #[] false A m c) 81)).alloc (.cells (pC n.toArray 6 1 lo #[]) 35)).heap.size := by have h1 := hbx1.size; have h2 := X.out.lt; omega
 have hbb1 : Below (w.heap.size + 1) (w.alloc (.cells (sC 1 lo hi #[] #[] false A m c) 81)) ((w.alloc (.cells (sC 1 lo hi #[] #[] false A m c) 81)).alloc (.cells (pC n.toArray 6 1 lo #[]) 35)) := hbx1.mono (by have h2 := X.out.lt; omega)
 rw [show (w.alloc (.cells (sC 1 lo hi #[] #[] false A m c) 81)).heap.size = w.heap.size + 1 by simp] at hrx1
 go_wp2_with (first | (at_builtin; refine wpList_append_k layP (by rfl) (.tmp 14) (.tmp 20) 22 underQ rfl (w.heap.size + 1) _ ([]) (by rfl) ho1 _ [⟨n, 6, 1, lo, []⟩] 1 1 (by rfl) hrx1 rfl (by rw [maxLen_num]; show 0 + 1 <= _; omega) (by show (0 + 1) * 56 <= _; omega) hs1 ?_; intro v1 x1 o1 b1 g1 l1; have hB1 := b1 _ hbb1; have hX1 := Blk.below X.out hB1 (Nat.lt_succ_self _); obtain ⟨a0, a1, a2, a3, a4, a5, a6, _⟩ := blk7 hX1; have hlX := hX1.lt; clear hrx1 hs1 ho1 b1 g1 l1))
 replace X := Lib.hid hX1
 replace BB := Lib.hid (BB.out.trans (hB1.mono (Nat.le_succ _)))
 replace O := Lib.hid o1
 clear hX1 hB1 hbb1 hbx1 o1
 go_ret
 exact ⟨_, rfl, (show OwnK layP _ _ _ [⟨n, 6, 1, lo, []⟩] from O.out.less (Nat.le_succ w.heap.size)), BB.out⟩
theorem rends_N11 (n : List UInt8) (lo hi : Int) (ha : ((-9223372036854775808) < lo)) (hb : (hi < 9223372036854775807)) (A : Option Addr) (m c : Nat) (w : World) :
  Calls Tryz.prog 83 #[.string ⟨n.toArray⟩, .agg (sC 1 lo hi #[] #[] false A m c)] w (GivesQ w [⟨n, 6, 1, lo, []⟩, ⟨n, 4, 1, hi, []⟩]) := by
 have d1 : decide ((-9223372036854775808) < lo) = true := decide_eq_true ha
 have d2 : decide (hi < 9223372036854775807) = true := decide_eq_true hb
 clear ha hb
 have X := Lib.hid (Blk.new w 81 (sC 1 lo hi #[] #[] false A m c))
 have BB := Lib.hid (gr1 w (.cells (sC 1 lo hi #[] #[] false A m c) 81)).below
 have O : Hid (OwnQ (w.alloc (.cells (sC 1 lo hi #[] #[] false A m c) 81)) (w.heap.size + 1) (.slice none 0 0) []) := OwnK.none_ _ _
 go_enter Tryz.func83, Tryz.ntmps83
 skip
 obtain ⟨a0, a1, a2, a3, a4, a5, a6, _⟩ := blk7 X.out
 have hlX := X.out.lt
 have hrx1 := rdk_one layP (w.alloc (.cells (sC 1 lo hi #[] #[] false A m c) 81)) ⟨n, 6, 1, lo, []⟩ 35 (pC n.toArray 6 1 lo #[]) rfl
 have hbx1 : Below (w.alloc (.cells (sC 1 lo hi #[] #[] false A m c) 81)).heap.size (w.alloc (.cells (sC 1 lo hi #[] #[] false A m c) 81)) ((w.alloc (.cells (sC 1 lo hi #[] #[] false A m c) 81)).alloc (.cells (pC n.toArray 6 1 lo #[]) 35)) := (gr1 (w.alloc (.cells (sC 1 lo hi #[] #[] false A m c) 81)) _).below
 have ho1 := OwnK.below O.out hbx1
 have hs1 : w.heap.size + 1 <= ((w.alloc (.cells (sC 1 lo hi #[] #[] false A m c) 81)).alloc (.cells (pC n.toArray 6 1 lo #[]) 35)).heap.size := by have h1 := hbx1.size; have h2 := X.out.lt; omega
 have hbb1 : Below (w.heap.size + 1) (w.alloc (.cells (sC 1 lo hi #[] #[] false A m c) 81)) ((w.alloc (.cells (sC 1 lo hi #[] #[] false A m c) 81)).alloc (.cells (pC n.toArray 6 1 lo #[]) 35)) := hbx1.mono (by have h2 := X.out.lt; omega)
 rw [show (w.alloc (.cells (sC 1 lo hi #[] #[] false A m c) 81)).heap.size = w.heap.size + 1 by simp] at hrx1
 go_wp2_with (first | (at_builtin; refine wpList_append_k layP (by rfl) (.tmp 14) (.tmp 20) 22 underQ rfl (w.heap.size + 1) _ ([]) (by rfl) ho1 _ [⟨n, 6, 1, lo, []⟩] 1 1 (by rfl) hrx1 rfl (by rw [maxLen_num]; show 0 + 1 <= _; omega) (by show (0 + 1) * 56 <= _; omega) hs1 ?_; intro v1 x1 o1 b1 g1 l1; have hB1 := b1 _ hbb1; have hX1 := Blk.below X.out hB1 (Nat.lt_succ_self _); obtain ⟨a0, a1, a2, a3, a4, a5, a6, _⟩ := blk7 hX1; have hlX := hX1.lt; clear hrx1 hs1 ho1 b1 g1 l1; have hrx2 := rdk_one layP x1 ⟨n, 4, 1, hi, []⟩ 35 (pC n.toArray 4 1 hi #[]) rfl; have hbx2 : Below x1.heap.size x1 (x1.alloc (.cells (pC n.toArray 4 1 hi #[]) 35)) := (gr1 x1 _).below; have ho2 := OwnK.below o1 hbx2; have hs2 : w.heap.size + 1 <= (x1.alloc (.cells (pC n.toArray 4 1 hi #[]) 35)).heap.size := (by have h1 := hbx2.size; have h2 := hX1.lt; omega); have hbb2 : Below (w.heap.size + 1) x1 (x1.alloc (.cells (pC n.toArray 4 1 hi #[]) 35)) := hbx2.mono (by have h2 := hX1.lt; omega)) | (at_builtin; refine wpList_append_k layP (by rfl) (.tmp 30) (.tmp 36) 22 underQ rfl (w.heap.size + 1) _ ([] ++ [⟨n, 6, 1, lo, []⟩]) (by rfl) ho2 _ [⟨n, 4, 1, hi, []⟩] 1 1 (by rfl) hrx2 rfl (by rw [maxLen_num]; show 1 + 1 <= _; omega) (by show (1 + 1) * 56 <= _; omega) hs2 ?_; intro v2 x2 o2 b2 g2 l2; have hB2 := b2 _ hbb2; have hX2 := Blk.below hX1 hB2 (Nat.lt_succ_self _); obtain ⟨a0, a1, a2, a3, a4, a5, a6, _⟩ := blk7 hX2; have hlX := hX2.lt; clear hrx2 hs2 ho2 b2 g2 l2))
 replace X := Lib.hid hX2
 replace BB := Lib.hid ((BB.out.trans (hB1.mono (Nat.le_succ _))).trans (hB2.mono (Nat.le_succ _)))
 replace O := Lib.hid o2
 go_ret
 exact ⟨_, rfl, (show OwnK layP _ _ _ [⟨n, 6, 1, lo, []⟩, ⟨n, 4, 1, hi, []⟩] from O.out.less (Nat.le_succ w.heap.size)), BB.out⟩
theorem rends_3 (n : List UInt8) (lo hi : Int) (A : Option Addr) (m c : Nat) (w : World) :
  Calls Tryz.prog 83 #[.string ⟨n.toArray⟩, .agg (sC 3 lo hi #[] #[] false A m c)] w (GivesQ w []) := by
 have X := Lib.hid (Blk.new w 81 (sC 3 lo hi #[] #[] false A m c))
 have BB := Lib.hid (gr1 w (.cells (sC 3 lo hi #[] #[] false A m c) 81)).below
 have O : Hid (OwnQ (w.alloc (.cells (sC 3 lo hi #[] #[] false A m c) 81)) (w.heap.size + 1) (.slice none 0 0) []) := OwnK.none_ _ _
 go_enter Tryz.func83, Tryz.ntmps83
 skip
 obtain ⟨a0, a1, a2, a3, a4, a5, a6, _⟩ := blk7 X.out
 have hlX := X.out.lt
 go_wp2_with fail
 go_ret
 exact ⟨_, rfl, (show OwnK layP _ _ _ [] from O.out.less (Nat.le_succ w.heap.size)), BB.out⟩
theorem rends_ZO (n : List UInt8) (u : List UInt8) (hu : u.length <= 100) (A : Option Addr) (m c : Nat) (w : World) :
  Calls Tryz.prog 83 #[.string ⟨n.toArray⟩, .agg (sC 2 0 0 ((u ++ [0]).toArray) #[] true A m c)] w (GivesQ w [⟨n, 5, 2, 0, u⟩]) := by
 have e1 := ext_init u 0
 have e2 : (⟨(u ++ [0]).toArray⟩ : ByteArray).size = u.length + 1 := by simp [ByteArray.size]
 have HZU : Hid ((zeroEnd (u ++ [0])).isSome = true) := by show _ = _; rw [(zeroEnd_iff _ u).2 rfl]; rfl
 have X := Lib.hid (Blk.new w 81 (sC 2 0 0 ((u ++ [0]).toArray) #[] true A m c))
 have BB := Lib.hid (gr1 w (.cells (sC 2 0 0 ((u ++ [0]).toArray) #[] true A m c) 81)).below
 have O : Hid (OwnQ (w.alloc (.cells (sC 2 0 0 ((u ++ [0]).toArray) #[] true A m c) 81)) (w.heap.size + 1) (.slice none 0 0) []) := OwnK.none_ _ _
 go_enter Tryz.func83, Tryz.ntmps83
 skip
 obtain ⟨a0, a1, a2, a3, a4, a5, a6, _⟩ := blk7 X.out
 have hlX := X.out.lt
 go_wp2_with fail
 refine (rzero_is (u ++ [0]) (by simp; omega) true HZU.out _).mono ?_
 rintro e y1 ⟨rfl, hg⟩
 replace O := Lib.hid (OwnK.below O.out hg.below)
 replace BB := Lib.hid (below_next BB.out (Nat.le_refl _) hg.below)
 replace X := Lib.hid (Blk.below X.out hg.below X.out.lt)
 clear hg
 obtain ⟨a0, a1, a2, a3, a4, a5, a6, _⟩ := blk7 X.out
 have hlX := X.out.lt
 have hrx1 := rdk_one layP y1 ⟨n, 5, 2, 0, u⟩ 35 (pC n.toArray 5 2 0 u.toArray) rfl
 have hbx1 : Below y1.heap.size y1 (y1.alloc (.cells (pC n.toArray 5 2 0 u.toArray) 35)) := (gr1 y1 _).below
 have ho1 := OwnK.below O.out hbx1
 have hs1 : w.heap.size + 1 <= (y1.alloc (.cells (pC n.toArray 5 2 0 u.toArray) 35)).heap.size := by have h1 := hbx1.size; have h2 := X.out.lt; omega
 have hbb1 : Below (w.heap.size + 1) y1 (y1.alloc (.cells (pC n.toArray 5 2 0 u.toArray) 35)) := hbx1.mono (by have h2 := X.out.lt; omega)
 go_wp2_with (first | (at_builtin; refine wpList_append_k layP (by rfl) (.tmp 46) (.tmp 57) 22 underQ rfl (w.heap.size + 1) _ ([]) (by rfl) ho1 _ [⟨n, 5, 2, 0, u⟩] 1 1 (by rfl) hrx1 rfl (by rw [maxLen_num]; show 0 + 1 <= _; omega) (by show (0 + 1) * 56 <= _; omega) hs1 ?_; intro v1 x1 o1 b1 g1 l1; have hB1 := b1 _ hbb1; have hX1 := Blk.below X.out hB1 (Nat.lt_succ_self _); obtain ⟨a0, a1, a2, a3, a4, a5, a6, _⟩ := blk7 hX1; have hlX := hX1.lt; clear hrx1 hs1 ho1 b1 g1 l1))
 replace X := Lib.hid hX1
 replace BB := Lib.hid (BB.out.trans (hB1.mono (Nat.le_succ _)))
 replace O := Lib.hid o1
 clear hX1 hB1 hbb1 hbx1 o1
 go_ret
 exact ⟨_, rfl, (show OwnK layP _ _ _ [⟨n, 5, 2, 0, u⟩] from O.out.less (Nat.le_succ w.heap.size)), BB.out⟩
theorem rends_ZZ (n : List UInt8) (u : List UInt8) (hu : u.length <= 100) (x : List UInt8) (hx : x.length <= 100) (A : Option Addr) (m c : Nat) (w : World) :
  Calls Tryz.prog 83 #[.string ⟨n.toArray⟩, .agg (sC 2 0 0 ((u ++ [0]).toArray) ((x ++ [0]).toArray) false A m c)] w (GivesQ w [⟨n, 5, 2, 0, u⟩, ⟨n, 4, 2, 0, x⟩]) := by
 have e1 := ext_init u 0
 have e2 : (⟨(u ++ [0]).toArray⟩ : ByteArray).size = u.length + 1 := by simp [ByteArray.size]
 have HZU : Hid ((zeroEnd (u ++ [0])).isSome = true) := by show _ = _; rw [(zeroEnd_iff _ u).2 rfl]; rfl
 have e3 := ext_init x 0
 have e4 : (⟨(x ++ [0]).toArray⟩ : ByteArray).size = x.length + 1 := by simp [ByteArray.size]
 have HZX : Hid ((zeroEnd (x ++ [0])).isSome = true) := by show _ = _; rw [(zeroEnd_iff _ x).2 rfl]; rfl
 have X := Lib.hid (Blk.new w 81 (sC 2 0 0 ((u ++ [0]).toArray) ((x ++ [0]).toArray) false A m c))
 have BB := Lib.hid (gr1 w (.cells (sC 2 0 0 ((u ++ [0]).toArray) ((x ++ [0]).toArray) false A m c) 81)).below
 have O : Hid (OwnQ (w.alloc (.cells (sC 2 0 0 ((u ++ [0]).toArray) ((x ++ [0]).toArray) false A m c) 81)) (w.heap.size + 1) (.slice none 0 0) []) := OwnK.none_ _ _
 go_enter Tryz.func83, Tryz.ntmps83
 skip
 obtain ⟨a0, a1, a2, a3, a4, a5, a6, _⟩ := blk7 X.out
 have hlX := X.out.lt
 go_wp2_with fail
 refine (rzero_is (u ++ [0]) (by simp; omega) true HZU.out _).mono ?_
 rintro e y1 ⟨rfl, hg⟩
 replace O := Lib.hid (OwnK.below O.out hg.below)
 replace BB := Lib.hid (below_next BB.out (Nat.le_refl _) hg.below)
 replace X := Lib.hid (Blk.below X.out hg.below X.out.lt)
 clear hg
 obtain ⟨a0, a1, a2, a3, a4, a5, a6, _⟩ := blk7 X.out
 have hlX := X.out.lt
 have hrx1 := rdk_one layP y1 ⟨n, 5, 2, 0, u⟩ 35 (pC n.toArray 5 2 0 u.toArray) rfl
 have hbx1 : Below y1.heap.size y1 (y1.alloc (.cells (pC n.toArray 5 2 0 u.toArray) 35)) := (gr1 y1 _).below
 have ho1 := OwnK.below O.out hbx1
 have hs1 : w.heap.size + 1 <= (y1.alloc (.cells (pC n.toArray 5 2 0 u.toArray) 35)).heap.size := by have h1 := hbx1.size; have h2 := X.out.lt; omega
 have hbb1 : Below (w.heap.size + 1) y1 (y1.alloc (.cells (pC n.toArray 5 2 0 u.toArray) 35)) := hbx1.mono (by have h2 := X.out.lt; omega)
 go_wp2_with (first | (at_builtin; refine wpList_append_k layP (by rfl) (.tmp 46) (.tmp 57) 22 underQ rfl (w.heap.size + 1) _ ([]) (by rfl) ho1 _ [⟨n, 5, 2, 0, u⟩] 1 1 (by rfl) hrx1 rfl (by rw [maxLen_num]; show 0 + 1 <= _; omega) (by show (0 + 1) * 56 <= _; omega) hs1 ?_; intro v1 x1 o1 b1 g1 l1; have hB1 := b1 _ hbb1; have hX1 := Blk.below X.out hB1 (Nat.lt_succ_self _); obtain ⟨a0, a1, a2, a3, a4, a5, a6, _⟩ := blk7 hX1; have hlX := hX1.lt; clear hrx1 hs1 ho1 b1 g1 l1))
 replace X := Lib.hid hX1
 replace BB := Lib.hid (BB.out.trans (hB1.mono (Nat.le_succ _)))
 replace O := Lib.hid o1
 clear hX1 hB1 hbb1 hbx1 o1
 refine (rzero_is (x ++ [0]) (by simp; omega) true HZX.out _).mono ?_
 rintro e y2 ⟨rfl, hg⟩
 replace O := Lib.hid (OwnK.below O.out hg.below)
 replace BB := Lib.hid (below_next BB.out (Nat.le_refl _) hg.below)
 replace X := Lib.hid (Blk.below X.out hg.below X.out.lt)
 clear hg
 obtain ⟨a0, a1, a2, a3, a4, a5, a6, _⟩ := blk7 X.out
 have hlX := X.out.lt
 have hrx2 := rdk_one layP y2 ⟨n, 4, 2, 0, x⟩ 35 (pC n.toArray 4 2 0 x.toArray) rfl
 have hbx2 : Below y2.heap.size y2 (y2.alloc (.cells (pC n.toArray 4 2 0 x.toArray) 35)) := (gr1 y2 _).below
 have ho2 := OwnK.below O.out hbx2
 have hs2 : w.heap.size + 1 <= (y2.alloc (.cells (pC n.toArray 4 2 0 x.toArray) 35)).heap.size := by have h1 := hbx2.size; have h2 := X.out.lt; omega
 have hbb2 : Below (w.heap.size + 1) y2 (y2.alloc (.cells (pC n.toArray 4 2 0 x.toArray) 35)) := hbx2.mono (by have h2 := X.out.lt; omega)
 go_wp2_with (first | (at_builtin; refine wpList_append_k layP (by rfl) (.tmp 88) (.tmp 99) 22 underQ rfl (w.heap.size + 1) _ ([] ++ [⟨n, 5, 2, 0, u⟩]) (by rfl) ho2 _ [⟨n, 4, 2, 0, x⟩] 1 1 (by rfl) hrx2 rfl (by rw [maxLen_num]; show 1 + 1 <= _; omega) (by show (1 + 1) * 56 <= _; omega) hs2 ?_; intro v2 x2 o2 b2 g2 l2; have hB2 := b2 _ hbb2; have hX2 := Blk.below X.out hB2 (Nat.lt_succ_self _); obtain ⟨a0, a1, a2, a3, a4, a5, a6, _⟩ := blk7 hX2; have hlX := hX2.lt; clear hrx2 hs2 ho2 b2 g2 l2))
 replace X := Lib.hid hX2
 replace BB := Lib.hid (BB.out.trans (hB2.mono (Nat.le_succ _)))
 replace O := Lib.hid o2
 clear hX2 hB2 hbb2 hbx2 o2
 go_ret
 exact ⟨_, rfl, (show OwnK layP _ _ _ [⟨n, 5, 2, 0, u⟩, ⟨n, 4, 2, 0, x⟩] from O.out.less (Nat.le_succ w.heap.size)), BB.out⟩
theorem rends_ZN (n : List UInt8) (u : List UInt8) (hu : u.length <= 100) (t : List UInt8) (ht : t.length <= 100) (htz : zeroEnd t = none) (A : Option Addr) (m c : Nat) (w : World) :
  Calls Tryz.prog 83 #[.string ⟨n.toArray⟩, .agg (sC 2 0 0 ((u ++ [0]).toArray) t.toArray false A m c)] w (GivesQ w [⟨n, 5, 2, 0, u⟩, ⟨n, 3, 2, 0, t⟩]) := by
 have e1 := ext_init u 0
 have e2 : (⟨(u ++ [0]).toArray⟩ : ByteArray).size = u.length + 1 := by simp [ByteArray.size]
 have HZU : Hid ((zeroEnd (u ++ [0])).isSome = true) := by show _ = _; rw [(zeroEnd_iff _ u).2 rfl]; rfl
 have HZX : Hid ((zeroEnd t).isSome = false) := by show _ = _; rw [htz]; rfl
 clear htz
 have X := Lib.hid (Blk.new w 81 (sC 2 0 0 ((u ++ [0]).toArray) t.toArray false A m c))
 have BB := Lib.hid (gr1 w (.cells (sC 2 0 0 ((u ++ [0]).toArray) t.toArray false A m c) 81)).below
 have O : Hid (OwnQ (w.alloc (.cells (sC 2 0 0 ((u ++ [0]).toArray) t.toArray false A m c) 81)) (w.heap.size + 1) (.slice none 0 0) []) := OwnK.none_ _ _
 go_enter Tryz.func83, Tryz.ntmps83
 skip
 obtain ⟨a0, a1, a2, a3, a4, a5, a6, _⟩ := blk7 X.out
 have hlX := X.out.lt
 go_wp2_with fail
 refine (rzero_is (u ++ [0]) (by simp; omega) true HZU.out _).mono ?_
 rintro e y1 ⟨rfl, hg⟩
 replace O := Lib.hid (OwnK.below O.out hg.below)
 replace BB := Lib.hid (below_next BB.out (Nat.le_refl _) hg.below)
 replace X := Lib.hid (Blk.below X.out hg.below X.out.lt)
 clear hg
 obtain ⟨a0, a1, a2, a3, a4, a5, a6, _⟩ := blk7 X.out
 have hlX := X.out.lt
 have hrx1 := rdk_one layP y1 ⟨n, 5, 2, 0, u⟩ 35 (pC n.toArray 5 2 0 u.toArray) rfl
 have hbx1 : Below y1.heap.size y1 (y1.alloc (.cells (pC n.toArray 5 2 0 u.toArray) 35)) := (gr1 y1 _).below
 have ho1 := OwnK.below O.out hbx1
 have hs1 : w.heap.size + 1 <= (y1.alloc (.cells (pC n.toArray 5 2 0 u.toArray) 35)).heap.size := by have h1 := hbx1.size; have h2 := X.out.lt; omega
 have hbb1 : Below (w.heap.size + 1) y1 (y1.alloc (.cells (pC n.toArray 5 2 0 u.toArray) 35)) := hbx1.mono (by have h2 := X.out.lt; omega)
 go_wp2_with (first | (at_builtin; refine wpList_append_k layP (by rfl) (.tmp 46) (.tmp 57) 22 underQ rfl (w.heap.size + 1) _ ([]) (by rfl) ho1 _ [⟨n, 5, 2, 0, u⟩] 1 1 (by rfl) hrx1 rfl (by rw [maxLen_num]; show 0 + 1 <= _; omega) (by show (0 + 1) * 56 <= _; omega) hs1 ?_; intro v1 x1 o1 b1 g1 l1; have hB1 := b1 _ hbb1; have hX1 := Blk.below X.out hB1 (Nat.lt_succ_self _); obtain ⟨a0, a1, a2, a3, a4, a5, a6, _⟩ := blk7 hX1; have hlX := hX1.lt; clear hrx1 hs1 ho1 b1 g1 l1))
 replace X := Lib.hid hX1
 replace BB := Lib.hid (BB.out.trans (hB1.mono (Nat.le_succ _)))
 replace O := Lib.hid o1
 clear hX1 hB1 hbb1 hbx1 o1
 refine (rzero_is t (by omega) false HZX.out _).mono ?_
 rintro e y2 ⟨rfl, hg⟩
 replace O := Lib.hid (OwnK.below O.out hg.below)
 replace BB := Lib.hid (below_next BB.out (Nat.le_refl _) hg.below)
 replace X := Lib.hid (Blk.below X.out hg.below X.out.lt)
 clear hg
 obtain ⟨a0, a1, a2, a3, a4, a5, a6, _⟩ := blk7 X.out
 have hlX := X.out.lt
 have hrx2 := rdk_one layP y2 ⟨n, 3, 2, 0, t⟩ 35 (pC n.toArray 3 2 0 t.toArray) rfl
 have hbx2 : Below y2.heap.size y2 (y2.alloc (.cells (pC n.toArray 3 2 0 t.toArray) 35)) := (gr1 y2 _).below
 have ho2 := OwnK.below O.out hbx2
 have hs2 : w.heap.size + 1 <= (y2.alloc (.cells (pC n.toArray 3 2 0 t.toArray) 35)).heap.size := by have h1 := hbx2.size; have h2 := X.out.lt; omega
 have hbb2 : Below (w.heap.size + 1) y2 (y2.alloc (.cells (pC n.toArray 3 2 0 t.toArray) 35)) := hbx2.mono (by have h2 := X.out.lt; omega)
 go_wp2_with (first | (at_builtin; refine wpList_append_k layP (by rfl) (.tmp 109) (.tmp 115) 22 underQ rfl (w.heap.size + 1) _ ([] ++ [⟨n, 5, 2, 0, u⟩]) (by rfl) ho2 _ [⟨n, 3, 2, 0, t⟩] 1 1 (by rfl) hrx2 rfl (by rw [maxLen_num]; show 1 + 1 <= _; omega) (by show (1 + 1) * 56 <= _; omega) hs2 ?_; intro v2 x2 o2 b2 g2 l2; have hB2 := b2 _ hbb2; have hX2 := Blk.below X.out hB2 (Nat.lt_succ_self _); obtain ⟨a0, a1, a2, a3, a4, a5, a6, _⟩ := blk7 hX2; have hlX := hX2.lt; clear hrx2 hs2 ho2 b2 g2 l2))
 replace X := Lib.hid hX2
 replace BB := Lib.hid (BB.out.trans (hB2.mono (Nat.le_succ _)))
 replace O := Lib.hid o2
 clear hX2 hB2 hbb2 hbx2 o2
 go_ret
 exact ⟨_, rfl, (show OwnK layP _ _ _ [⟨n, 5, 2, 0, u⟩, ⟨n, 3, 2, 0, t⟩] from O.out.less (Nat.le_succ w.heap.size)), BB.out⟩
theorem rends_EO (n : List UInt8) (A : Option Addr) (m c : Nat) (w : World) :
  Calls Tryz.prog 83 #[.string ⟨n.toArray⟩, .agg (sC 2 0 0 #[] #[] true A m c)] w (GivesQ w []) := by
 have X := Lib.hid (Blk.new w 81 (sC 2 0 0 #[] #[] true A m c))
 have BB := Lib.hid (gr1 w (.cells (sC 2 0 0 #[] #[] true A m c) 81)).below
 have O : Hid (OwnQ (w.alloc (.cells (sC 2 0 0 #[] #[] true A m c) 81)) (w.heap.size + 1) (.slice none 0 0) []) := OwnK.none_ _ _
 go_enter Tryz.func83, Tryz.ntmps83
 skip
 obtain ⟨a0, a1, a2, a3, a4, a5, a6, _⟩ := blk7 X.out
 have hlX := X.out.lt
 go_wp2_with fail
 refine (rzero_is [] (by simp) false rfl _).mono ?_
 rintro e y1 ⟨rfl, hg⟩
 replace O := Lib.hid (OwnK.below O.out hg.below)
 replace BB := Lib.hid (below_next BB.out (Nat.le_refl _) hg.below)
 replace X := Lib.hid (Blk.below X.out hg.below X.out.lt)
 clear hg
 obtain ⟨a0, a1, a2, a3, a4, a5, a6, _⟩ := blk7 X.out
 have hlX := X.out.lt
 go_wp2_with fail
 go_ret
 exact ⟨_, rfl, (show OwnK layP _ _ _ [] from O.out.less (Nat.le_succ w.heap.size)), BB.out⟩
theorem rends_EZ (n : List UInt8) (x : List UInt8) (hx : x.length <= 100) (A : Option Addr) (m c : Nat) (w : World) :
  Calls Tryz.prog 83 #[.string ⟨n.toArray⟩, .agg (sC 2 0 0 #[] ((x ++ [0]).toArray) false A m c)] w (GivesQ w [⟨n, 4, 2, 0, x⟩]) := by
 have e3 := ext_init x 0
 have e4 : (⟨(x ++ [0]).toArray⟩ : ByteArray).size = x.length + 1 := by simp [ByteArray.size]
 have HZX : Hid ((zeroEnd (x ++ [0])).isSome = true) := by show _ = _; rw [(zeroEnd_iff _ x).2 rfl]; rfl
 have X := Lib.hid (Blk.new w 81 (sC 2 0 0 #[] ((x ++ [0]).toArray) false A m c))
 have BB := Lib.hid (gr1 w (.cells (sC 2 0 0 #[] ((x ++ [0]).toArray) false A m c) 81)).below
 have O : Hid (OwnQ (w.alloc (.cells (sC 2 0 0 #[] ((x ++ [0]).toArray) false A m c) 81)) (w.heap.size + 1) (.slice none 0 0) []) := OwnK.none_ _ _
 go_enter Tryz.func83, Tryz.ntmps83
 skip
 obtain ⟨a0, a1, a2, a3, a4, a5, a6, _⟩ := blk7 X.out
 have hlX := X.out.lt
 go_wp2_with fail
 refine (rzero_is [] (by simp) false rfl _).mono ?_
 rintro e y1 ⟨rfl, hg⟩
 replace O := Lib.hid (OwnK.below O.out hg.below)
 replace BB := Lib.hid (below_next BB.out (Nat.le_refl _) hg.below)
 replace X := Lib.hid (Blk.below X.out hg.below X.out.lt)
 clear hg
 obtain ⟨a0, a1, a2, a3, a4, a5, a6, _⟩ := blk7 X.out
 have hlX := X.out.lt
 go_wp2_with fail
 refine (rzero_is (x ++ [0]) (by simp; omega) true HZX.out _).mono ?_
 rintro e y2 ⟨rfl, hg⟩
 replace O := Lib.hid (OwnK.below O.out hg.below)
 replace BB := Lib.hid (below_next BB.out (Nat.le_refl _) hg.below)
 replace X := Lib.hid (Blk.below X.out hg.below X.out.lt)
 clear hg
 obtain ⟨a0, a1, a2, a3, a4, a5, a6, _⟩ := blk7 X.out
 have hlX := X.out.lt
 have hrx1 := rdk_one layP y2 ⟨n, 4, 2, 0, x⟩ 35 (pC n.toArray 4 2 0 x.toArray) rfl
 have hbx1 : Below y2.heap.size y2 (y2.alloc (.cells (pC n.toArray 4 2 0 x.toArray) 35)) := (gr1 y2 _).below
 have ho1 := OwnK.below O.out hbx1
 have hs1 : w.heap.size + 1 <= (y2.alloc (.cells (pC n.toArray 4 2 0 x.toArray) 35)).heap.size := by have h1 := hbx1.size; have h2 := X.out.lt; omega
 have hbb1 : Below (w.heap.size + 1) y2 (y2.alloc (.cells (pC n.toArray 4 2 0 x.toArray) 35)) := hbx1.mono (by have h2 := X.out.lt; omega)
 go_wp2_with (first | (at_builtin; refine wpList_append_k layP (by rfl) (.tmp 88) (.tmp 99) 22 underQ rfl (w.heap.size + 1) _ ([]) (by rfl) ho1 _ [⟨n, 4, 2, 0, x⟩] 1 1 (by rfl) hrx1 rfl (by rw [maxLen_num]; show 0 + 1 <= _; omega) (by show (0 + 1) * 56 <= _; omega) hs1 ?_; intro v1 x1 o1 b1 g1 l1; have hB1 := b1 _ hbb1; have hX1 := Blk.below X.out hB1 (Nat.lt_succ_self _); obtain ⟨a0, a1, a2, a3, a4, a5, a6, _⟩ := blk7 hX1; have hlX := hX1.lt; clear hrx1 hs1 ho1 b1 g1 l1))
 replace X := Lib.hid hX1
 replace BB := Lib.hid (BB.out.trans (hB1.mono (Nat.le_succ _)))
 replace O := Lib.hid o1
 clear hX1 hB1 hbb1 hbx1 o1
 go_ret
 exact ⟨_, rfl, (show OwnK layP _ _ _ [⟨n, 4, 2, 0, x⟩] from O.out.less (Nat.le_succ w.heap.size)), BB.out⟩
theorem rends_EN (n : List UInt8) (t : List UInt8) (ht : t.length <= 100) (htz : zeroEnd t = none) (A : Option Addr) (m c : Nat) (w : World) :
  Calls Tryz.prog 83 #[.string ⟨n.toArray⟩, .agg (sC 2 0 0 #[] t.toArray false A m c)] w (GivesQ w [⟨n, 3, 2, 0, t⟩]) := by
 have HZX : Hid ((zeroEnd t).isSome = false) := by show _ = _; rw [htz]; rfl
 clear htz
 have X := Lib.hid (Blk.new w 81 (sC 2 0 0 #[] t.toArray false A m c))
 have BB := Lib.hid (gr1 w (.cells (sC 2 0 0 #[] t.toArray false A m c) 81)).below
 have O : Hid (OwnQ (w.alloc (.cells (sC 2 0 0 #[] t.toArray false A m c) 81)) (w.heap.size + 1) (.slice none 0 0) []) := OwnK.none_ _ _
 go_enter Tryz.func83, Tryz.ntmps83
 skip
 obtain ⟨a0, a1, a2, a3, a4, a5, a6, _⟩ := blk7 X.out
 have hlX := X.out.lt
 go_wp2_with fail
 refine (rzero_is [] (by simp) false rfl _).mono ?_
 rintro e y1 ⟨rfl, hg⟩
 replace O := Lib.hid (OwnK.below O.out hg.below)
 replace BB := Lib.hid (below_next BB.out (Nat.le_refl _) hg.below)
 replace X := Lib.hid (Blk.below X.out hg.below X.out.lt)
 clear hg
 obtain ⟨a0, a1, a2, a3, a4, a5, a6, _⟩ := blk7 X.out
 have hlX := X.out.lt
 go_wp2_with fail
 refine (rzero_is t (by omega) false HZX.out _).mono ?_
 rintro e y2 ⟨rfl, hg⟩
 replace O := Lib.hid (OwnK.below O.out hg.below)
 replace BB := Lib.hid (below_next BB.out (Nat.le_refl _) hg.below)
 replace X := Lib.hid (Blk.below X.out hg.below X.out.lt)
 clear hg
 obtain ⟨a0, a1, a2, a3, a4, a5, a6, _⟩ := blk7 X.out
 have hlX := X.out.lt
 have hrx1 := rdk_one layP y2 ⟨n, 3, 2, 0, t⟩ 35 (pC n.toArray 3 2 0 t.toArray) rfl
 have hbx1 : Below y2.heap.size y2 (y2.alloc (.cells (pC n.toArray 3 2 0 t.toArray) 35)) := (gr1 y2 _).below
 have ho1 := OwnK.below O.out hbx1
 have hs1 : w.heap.size + 1 <= (y2.alloc (.cells (pC n.toArray 3 2 0 t.toArray) 35)).heap.size := by have h1 := hbx1.size; have h2 := X.out.lt; omega
 have hbb1 : Below (w.heap.size + 1) y2 (y2.alloc (.cells (pC n.toArray 3 2 0 t.toArray) 35)) := hbx1.mono (by have h2 := X.out.lt; omega)
 go_wp2_with (first | (at_builtin; refine wpList_append_k layP (by rfl) (.tmp 109) (.tmp 115) 22 underQ rfl (w.heap.size + 1) _ ([]) (by rfl) ho1 _ [⟨n, 3, 2, 0, t⟩] 1 1 (by rfl) hrx1 rfl (by rw [maxLen_num]; show 0 + 1 <= _; omega) (by show (0 + 1) * 56 <= _; omega) hs1 ?_; intro v1 x1 o1 b1 g1 l1; have hB1 := b1 _ hbb1; have hX1 := Blk.below X.out hB1 (Nat.lt_succ_self _); obtain ⟨a0, a1, a2, a3, a4, a5, a6, _⟩ := blk7 hX1; have hlX := hX1.lt; clear hrx1 hs1 ho1 b1 g1 l1))
 replace X := Lib.hid hX1
 replace BB := Lib.hid (BB.out.trans (hB1.mono (Nat.le_succ _)))
 replace O := Lib.hid o1
 clear hX1 hB1 hbb1 hbx1 o1
 go_ret
 exact ⟨_, rfl, (show OwnK layP _ _ _ [⟨n, 3, 2, 0, t⟩] from O.out.less (Nat.le_succ w.heap.size)), BB.out⟩
theorem rends_NO (n : List UInt8) (f : List UInt8) (hf : f.length <= 100) (hf0 : f ≠ []) (hfz : zeroEnd f = none) (A : Option Addr) (m c : Nat) (w : World) :
  Calls Tryz.prog 83 #[.string ⟨n.toArray⟩, .agg (sC 2 0 0 f.toArray #[] true A m c)] w (GivesQ w [⟨n, 6, 2, 0, f⟩]) := by
 have HZU : Hid ((zeroEnd f).isSome = false) := by show _ = _; rw [hfz]; rfl
 have v0 : (f == []) = false := by simpa using hf0
 clear hfz hf0
 have X := Lib.hid (Blk.new w 81 (sC 2 0 0 f.toArray #[] true A m c))
 have BB := Lib.hid (gr1 w (.cells (sC 2 0 0 f.toArray #[] true A m c) 81)).below
 have O : Hid (OwnQ (w.alloc (.cells (sC 2 0 0 f.toArray #[] true A m c) 81)) (w.heap.size + 1) (.slice none 0 0) []) := OwnK.none_ _ _
 go_enter Tryz.func83, Tryz.ntmps83
 skip
 obtain ⟨a0, a1, a2, a3, a4, a5, a6, _⟩ := blk7 X.out
 have hlX := X.out.lt
 go_wp2_with fail
 refine (rzero_is f (by omega) false HZU.out _).mono ?_
 rintro e y1 ⟨rfl, hg⟩
 replace O := Lib.hid (OwnK.below O.out hg.below)
 replace BB := Lib.hid (below_next BB.out (Nat.le_refl _) hg.below)
 replace X := Lib.hid (Blk.below X.out hg.below X.out.lt)
 clear hg
 obtain ⟨a0, a1, a2, a3, a4, a5, a6, _⟩ := blk7 X.out
 have hlX := X.out.lt
 have hrx1 := rdk_one layP y1 ⟨n, 6, 2, 0, f⟩ 35 (pC n.toArray 6 2 0 f.toArray) rfl
 have hbx1 : Below y1.heap.size y1 (y1.alloc (.cells (pC n.toArray 6 2 0 f.toArray) 35)) := (gr1 y1 _).below
 have ho1 := OwnK.below O.out hbx1
 have hs1 : w.heap.size + 1 <= (y1.alloc (.cells (pC n.toArray 6 2 0 f.toArray) 35)).heap.size := by have h1 := hbx1.size; have h2 := X.out.lt; omega
 have hbb1 : Below (w.heap.size + 1) y1 (y1.alloc (.cells (pC n.toArray 6 2 0 f.toArray) 35)) := hbx1.mono (by have h2 := X.out.lt; omega)
 go_wp2_with (first | (at_builtin; refine wpList_append_k layP (by rfl) (.tmp 67) (.tmp 73) 22 underQ rfl (w.heap.size + 1) _ ([]) (by rfl) ho1 _ [⟨n, 6, 2, 0, f⟩] 1 1 (by rfl) hrx1 rfl (by rw [maxLen_num]; show 0 + 1 <= _; omega) (by show (0 + 1) * 56 <= _; omega) hs1 ?_; intro v1 x1 o1 b1 g1 l1; have hB1 := b1 _ hbb1; have hX1 := Blk.below X.out hB1 (Nat.lt_succ_self _); obtain ⟨a0, a1, a2, a3, a4, a5, a6, _⟩ := blk7 hX1; have hlX := hX1.lt; clear hrx1 hs1 ho1 b1 g1 l1))
 replace X := Lib.hid hX1
 replace BB := Lib.hid (BB.out.trans (hB1.mono (Nat.le_succ _)))
 replace O := Lib.hid o1
 clear hX1 hB1 hbb1 hbx1 o1
 go_ret
 exact ⟨_, rfl, (show OwnK layP _ _ _ [⟨n, 6, 2, 0, f⟩] from O.out.less (Nat.le_succ w.heap.size)), BB.out⟩
theorem rends_NZ (n : List UInt8) (f : List UInt8) (hf : f.length <= 100) (hf0 : f ≠ []) (hfz : zeroEnd f = none) (x : List UInt8) (hx : x.length <= 100) (A : Option Addr) (m c : Nat) (w : World) :
  Calls Tryz.prog 83 #[.string ⟨n.toArray⟩, .agg (sC 2 0 0 f.toArray ((x ++ [0]).toArray) false A m c)] w (GivesQ w [⟨n, 6, 2, 0, f⟩, ⟨n, 4, 2, 0, x⟩]) := by
 have HZU : Hid ((zeroEnd f).isSome = false) := by show _ = _; rw [hfz]; rfl
 have v0 : (f == []) = false := by simpa using hf0
 clear hfz hf0
 have e3 := ext_init x 0
 have e4 : (⟨(x ++ [0]).toArray⟩ : ByteArray).size = x.length + 1 := by simp [ByteArray.size]
 have HZX : Hid ((zeroEnd (x ++ [0])).isSome = true) := by show _ = _; rw [(zeroEnd_iff _ x).2 rfl]; rfl
 have X := Lib.hid (Blk.new w 81 (sC 2 0 0 f.toArray ((x ++ [0]).toArray) false A m c))
 have BB := Lib.hid (gr1 w (.cells (sC 2 0 0 f.toArray ((x ++ [0]).toArray) false A m c) 81)).below
 have O : Hid (OwnQ (w.alloc (.cells (sC 2 0 0 f.toArray ((x ++ [0]).toArray) false A m c) 81)) (w.heap.size + 1) (.slice none 0 0) []) := OwnK.none_ _ _
 go_enter Tryz.func83, Tryz.ntmps83
 skip
 obtain ⟨a0, a1, a2, a3, a4, a5, a6, _⟩ := blk7 X.out
 have hlX := X.out.lt
 go_wp2_with fail
 refine (rzero_is f (by omega) false HZU.out _).mono ?_
 rintro e y1 ⟨rfl, hg⟩
 replace O := Lib.hid (OwnK.below O.out hg.below)
 replace BB := Lib.hid (below_next BB.out (Nat.le_refl _) hg.below)
 replace X := Lib.hid (Blk.below X.out hg.below X.out.lt)
 clear hg
 obtain ⟨a0, a1, a2, a3, a4, a5, a6, _⟩ := blk7 X.out
 have hlX := X.out.lt
 have hrx1 := rdk_one layP y1 ⟨n, 6, 2, 0, f⟩ 35 (pC n.toArray 6 2 0 f.toArray) rfl
 have hbx1 : Below y1.heap.size y1 (y1.alloc (.cells (pC n.toArray 6 2 0 f.toArray) 35)) := (gr1 y1 _).below
 have ho1 := OwnK.below O.out hbx1
 have hs1 : w.heap.size + 1 <= (y1.alloc (.cells (pC n.toArray 6 2 0 f.toArray) 35)).heap.size := by have h1 := hbx1.size; have h2 := X.out.lt; omega
 have hbb1 : Below (w.heap.size + 1) y1 (y1.alloc (.cells (pC n.toArray 6 2 0 f.toArray) 35)) := hbx1.mono (by have h2 := X.out.lt; omega)
 go_wp2_with (first | (at_builtin; refine wpList_append_k layP (by rfl) (.tmp 67) (.tmp 73) 22 underQ rfl (w.heap.size + 1) _ ([]) (by rfl) ho1 _ [⟨n, 6, 2, 0, f⟩] 1 1 (by rfl) hrx1 rfl (by rw [maxLen_num]; show 0 + 1 <= _; omega) (by show (0 + 1) * 56 <= _; omega) hs1 ?_; intro v1 x1 o1 b1 g1 l1; have hB1 := b1 _ hbb1; have hX1 := Blk.below X.out hB1 (Nat.lt_succ_self _); obtain ⟨a0, a1, a2, a3, a4, a5, a6, _⟩ := blk7 hX1; have hlX := hX1.lt; clear hrx1 hs1 ho1 b1 g1 l1))
 replace X := Lib.hid hX1
 replace BB := Lib.hid (BB.out.trans (hB1.mono (Nat.le_succ _)))
 replace O := Lib.hid o1
 clear hX1 hB1 hbb1 hbx1 o1
 refine (rzero_is (x ++ [0]) (by simp; omega) true HZX.out _).mono ?_
 rintro e y2 ⟨rfl, hg⟩
 replace O := Lib.hid (OwnK.below O.out hg.below)
 replace BB := Lib.hid (below_next BB.out (Nat.le_refl _) hg.below)
 replace X := Lib.hid (Blk.below X.out hg.below X.out.lt)
 clear hg
 obtain ⟨a0, a1, a2, a3, a4, a5, a6, _⟩ := blk7 X.out
 have hlX := X.out.lt
 have hrx2 := rdk_one layP y2 ⟨n, 4, 2, 0, x⟩ 35 (pC n.toArray 4 2 0 x.toArray) rfl
 have hbx2 : Below y2.heap.size y2 (y2.alloc (.cells (pC n.toArray 4 2 0 x.toArray) 35)) := (gr1 y2 _).below
 have ho2 := OwnK.below O.out hbx2
 have hs2 : w.heap.size + 1 <= (y2.alloc (.cells (pC n.toArray 4 2 0 x.toArray) 35)).heap.size := by have h1 := hbx2.size; have h2 := X.out.lt; omega
 have hbb2 : Below (w.heap.size + 1) y2 (y2.alloc (.cells (pC n.toArray 4 2 0 x.toArray) 35)) := hbx2.mono (by have h2 := X.out.lt; omega)
 go_wp2_with (first | (at_builtin; refine wpList_append_k layP (by rfl) (.tmp 88) (.tmp 99) 22 underQ rfl (w.heap.size + 1) _ ([] ++ [⟨n, 6, 2, 0, f⟩]) (by rfl) ho2 _ [⟨n, 4, 2, 0, x⟩] 1 1 (by rfl) hrx2 rfl (by rw [maxLen_num]; show 1 + 1 <= _; omega) (by show (1 + 1) * 56 <= _; omega) hs2 ?_; intro v2 x2 o2 b2 g2 l2; have hB2 := b2 _ hbb2; have hX2 := Blk.below X.out hB2 (Nat.lt_succ_self _); obtain ⟨a0, a1, a2, a3, a4, a5, a6, _⟩ := blk7 hX2; have hlX := hX2.lt; clear hrx2 hs2 ho2 b2 g2 l2))
 replace X := Lib.hid hX2
 replace BB := Lib.hid (BB.out.trans (hB2.mono (Nat.le_succ _)))
 replace O := Lib.hid o2
 clear hX2 hB2 hbb2 hbx2 o2
 go_ret
 exact ⟨_, rfl, (show OwnK layP _ _ _ [⟨n, 6, 2, 0, f⟩, ⟨n, 4, 2, 0, x⟩] from O.out.less (Nat.le_succ w.heap.size)), BB.out⟩
theorem rends_NN (n : List UInt8) (f : List UInt8) (hf : f.length <= 100) (hf0 : f ≠ []) (hfz : zeroEnd f = none) (t : List UInt8) (ht : t.length <= 100) (htz : zeroEnd t = none) (A : Option Addr) (m c : Nat) (w : World) :
  Calls Tryz.prog 83 #[.string ⟨n.toArray⟩, .agg (sC 2 0 0 f.toArray t.toArray false A m c)] w (GivesQ w [⟨n, 6, 2, 0, f⟩, ⟨n, 3, 2, 0, t⟩]) := by
 have HZU : Hid ((zeroEnd f).isSome = false) := by show _ = _; rw [hfz]; rfl
 have v0 : (f == []) = false := by simpa using hf0
 clear hfz hf0
 have HZX : Hid ((zeroEnd t).isSome = false) := by show _ = _; rw [htz]; rfl
 clear htz
 have X := Lib.hid (Blk.new w 81 (sC 2 0 0 f.toArray t.toArray false A m c))
 have BB := Lib.hid (gr1 w (.cells (sC 2 0 0 f.toArray t.toArray false A m c) 81)).below
 have O : Hid (OwnQ (w.alloc (.cells (sC 2 0 0 f.toArray t.toArray false A m c) 81)) (w.heap.size + 1) (.slice none 0 0) []) := OwnK.none_ _ _
 go_enter Tryz.func83, Tryz.ntmps83
 skip
 obtain ⟨a0, a1, a2, a3, a4, a5, a6, _⟩ := blk7 X.out
 have hlX := X.out.lt
 go_wp2_with fail
 refine (rzero_is f (by omega) false HZU.out _).mono ?_
 rintro e y1 ⟨rfl, hg⟩
 replace O := Lib.hid (OwnK.below O.out hg.below)
 replace BB := Lib.hid (below_next BB.out (Nat.le_refl _) hg.below)
 replace X := Lib.hid (Blk.below X.out hg.below X.out.lt)
 clear hg
 obtain ⟨a0, a1, a2, a3, a4, a5, a6, _⟩ := blk7 X.out
 have hlX := X.out.lt
 have hrx1 := rdk_one layP y1 ⟨n, 6, 2, 0, f⟩ 35 (pC n.toArray 6 2 0 f.toArray) rfl
 have hbx1 : Below y1.heap.size y1 (y1.alloc (.cells (pC n.toArray 6 2 0 f.toArray) 35)) := (gr1 y1 _).below
 have ho1 := OwnK.below O.out hbx1
 have hs1 : w.heap.size + 1 <= (y1.alloc (.cells (pC n.toArray 6 2 0 f.toArray) 35)).heap.size := by have h1 := hbx1.size; have h2 := X.out.lt; omega
 have hbb1 : Below (w.heap.size + 1) y1 (y1.alloc (.cells (pC n.toArray 6 2 0 f.toArray) 35)) := hbx1.mono (by have h2 := X.out.lt; omega)
 go_wp2_with (first | (at_builtin; refine wpList_append_k layP (by rfl) (.tmp 67) (.tmp 73) 22 underQ rfl (w.heap.size + 1) _ ([]) (by rfl) ho1 _ [⟨n, 6, 2, 0, f⟩] 1 1 (by rfl) hrx1 rfl (by rw [maxLen_num]; show 0 + 1 <= _; omega) (by show (0 + 1) * 56 <= _; omega) hs1 ?_; intro v1 x1 o1 b1 g1 l1; have hB1 := b1 _ hbb1; have hX1 := Blk.below X.out hB1 (Nat.lt_succ_self _); obtain ⟨a0, a1, a2, a3, a4, a5, a6, _⟩ := blk7 hX1; have hlX := hX1.lt; clear hrx1 hs1 ho1 b1 g1 l1))
 replace X := Lib.hid hX1
 replace BB := Lib.hid (BB.out.trans (hB1.mono (Nat.le_succ _)))
 replace O := Lib.hid o1
 clear hX1 hB1 hbb1 hbx1 o1
 refine (rzero_is t (by omega) false HZX.out _).mono ?_
 rintro e y2 ⟨rfl, hg⟩
 replace O := Lib.hid (OwnK.below O.out hg.below)
 replace BB := Lib.hid (below_next BB.out (Nat.le_refl _) hg.below)
 replace X := Lib.hid (Blk.below X.out hg.below X.out.lt)
 clear hg
 obtain ⟨a0, a1, a2, a3, a4, a5, a6, _⟩ := blk7 X.out
 have hlX := X.out.lt
 have hrx2 := rdk_one layP y2 ⟨n, 3, 2, 0, t⟩ 35 (pC n.toArray 3 2 0 t.toArray) rfl
 have hbx2 : Below y2.heap.size y2 (y2.alloc (.cells (pC n.toArray 3 2 0 t.toArray) 35)) := (gr1 y2 _).below
 have ho2 := OwnK.below O.out hbx2
 have hs2 : w.heap.size + 1 <= (y2.alloc (.cells (pC n.toArray 3 2 0 t.toArray) 35)).heap.size := by have h1 := hbx2.size; have h2 := X.out.lt; omega
 have hbb2 : Below (w.heap.size + 1) y2 (y2.alloc (.cells (pC n.toArray 3 2 0 t.toArray) 35)) := hbx2.mono (by have h2 := X.out.lt; omega)
 go_wp2_with (first | (at_builtin; refine wpList_append_k layP (by rfl) (.tmp 109) (.tmp 115) 22 underQ rfl (w.heap.size + 1) _ ([] ++ [⟨n, 6, 2, 0, f⟩]) (by rfl) ho2 _ [⟨n, 3, 2, 0, t⟩] 1 1 (by rfl) hrx2 rfl (by rw [maxLen_num]; show 1 + 1 <= _; omega) (by show (1 + 1) * 56 <= _; omega) hs2 ?_; intro v2 x2 o2 b2 g2 l2; have hB2 := b2 _ hbb2; have hX2 := Blk.below X.out hB2 (Nat.lt_succ_self _); obtain ⟨a0, a1, a2, a3, a4, a5, a6, _⟩ := blk7 hX2; have hlX := hX2.lt; clear hrx2 hs2 ho2 b2 g2 l2))
 replace X := Lib.hid hX2
 replace BB := Lib.hid (BB.out.trans (hB2.mono (Nat.le_succ _)))
 replace O := Lib.hid o2
 clear hX2 hB2 hbb2 hbx2 o2
 go_ret
 exact ⟨_, rfl, (show OwnK layP _ _ _ [⟨n, 6, 2, 0, f⟩, ⟨n, 3, 2, 0, t⟩] from O.out.less (Nat.le_succ w.heap.size)), BB.out⟩
end Go.Proofs.YtoffnfooeojhnaaGreat
