/- Contracts of the program and of the document (RMeet, RMeet1, RMeet2, RMeet3, RMeetA), each used further on. -/
import Derived.Test.YtckabmlilbkmbaaB4
import Derived.Test.YtckabmlilbkmbaaE2
import Derived.Test.YtckabmlilbkmbaaE3
import Derived.Test.YtckabmlilbkmbaaE5
namespace Go.Proofs.Ytckabmlilbkmbaa
open Go.RowKit Go.Sort Spans Op
set_option maxRecDepth 100000 in
set_option maxHeartbeats 400000 in
theorem rmeet_left (lo hi : Int) (f t : List UInt8) (o : Bool) (A : Option Addr) (n c : Nat) (K' lo' hi' : Int) (f' t' : List UInt8) (o' : Bool) (A' : Option Addr) (n' c' : Nat) (w : World) :
    Calls Try.prog 50 #[.agg #[.int .i64 4, .int .i64 lo, .int .i64 hi, .string ⟨f.toArray⟩, .string ⟨t.toArray⟩, .bool o, .slice A n c], .agg #[.int .i64 K', .int .i64 lo', .int .i64 hi', .string ⟨f'.toArray⟩, .string ⟨t'.toArray⟩, .bool o', .slice A' n' c']] w fun e w' => e = .returned (spF K' lo' hi' f' t' o' A' n' c') ∧ Below w.heap.size w w' := by
  have hgr := gr3 w (.cells #[.int .i64 4, .int .i64 lo, .int .i64 hi, .string ⟨f.toArray⟩, .string ⟨t.toArray⟩, .bool o, .slice A n c] 58) (.cells #[.int .i64 K', .int .i64 lo', .int .i64 hi', .string ⟨f'.toArray⟩, .string ⟨t'.toArray⟩, .bool o', .slice A' n' c'] 58) (.cells #[.int .i64 0, .int .i64 0, .int .i64 0, .string ⟨#[]⟩, .string ⟨#[]⟩, .bool false, .slice none 0 0] 58)
  have hX := ((Blk.new w 58 #[.int .i64 4, .int .i64 lo, .int .i64 hi, .string ⟨f.toArray⟩, .string ⟨t.toArray⟩, .bool o, .slice A n c]).alloc (.cells #[.int .i64 K', .int .i64 lo', .int .i64 hi', .string ⟨f'.toArray⟩, .string ⟨t'.toArray⟩, .bool o', .slice A' n' c'] 58)).alloc (.cells #[.int .i64 0, .int .i64 0, .int .i64 0, .string ⟨#[]⟩, .string ⟨#[]⟩, .bool false, .slice none 0 0] 58)
  have hX2 := (Blk.new (w.alloc (.cells #[.int .i64 4, .int .i64 lo, .int .i64 hi, .string ⟨f.toArray⟩, .string ⟨t.toArray⟩, .bool o, .slice A n c] 58)) 58 #[.int .i64 K', .int .i64 lo', .int .i64 hi', .string ⟨f'.toArray⟩, .string ⟨t'.toArray⟩, .bool o', .slice A' n' c']).alloc (.cells #[.int .i64 0, .int .i64 0, .int .i64 0, .string ⟨#[]⟩, .string ⟨#[]⟩, .bool false, .slice none 0 0] 58)
  have hY := Blk.new ((w.alloc (.cells #[.int .i64 4, .int .i64 lo, .int .i64 hi, .string ⟨f.toArray⟩, .string ⟨t.toArray⟩, .bool o, .slice A n c] 58)).alloc (.cells #[.int .i64 K', .int .i64 lo', .int .i64 hi', .string ⟨f'.toArray⟩, .string ⟨t'.toArray⟩, .bool o', .slice A' n' c'] 58)) 58 #[.int .i64 0, .int .i64 0, .int .i64 0, .string ⟨#[]⟩, .string ⟨#[]⟩, .bool false, .slice none 0 0]
  rw [show (w.alloc (.cells #[.int .i64 4, .int .i64 lo, .int .i64 hi, .string ⟨f.toArray⟩, .string ⟨t.toArray⟩, .bool o, .slice A n c] 58)).heap.size = w.heap.size + 1 by simp] at hX2
  rw [show ((w.alloc (.cells #[.int .i64 4, .int .i64 lo, .int .i64 hi, .string ⟨f.toArray⟩, .string ⟨t.toArray⟩, .bool o, .slice A n c] 58)).alloc (.cells #[.int .i64 K', .int .i64 lo', .int .i64 hi', .string ⟨f'.toArray⟩, .string ⟨t'.toArray⟩, .bool o', .slice A' n' c'] 58)).heap.size = w.heap.size + 2 by simp] at hY
  have BB := Lib.hid hgr.below
  have HX := Lib.hid hX
  have HX2 := Lib.hid hX2
  have HY := Lib.hid hY
  clear hgr hX hX2 hY
  obtain ⟨b0, b1, b2, b3, b4, b5, b6, _⟩ := blk7 HX2.out
  obtain ⟨z0, z1, z2, z3, z4, z5, z6, q0, q1, q2, q3, q4, q5, q6⟩ := blk7 HY.out
  have hlY := HY.out.lt
  have hlX := HX2.out.lt
  have a20 := HX.out.cell 0
  go_enter Try.func50, Try.ntmps50
  go_wp2_with fail
  refine bodyPost_ret (v := spF K' lo' hi' f' t' o' A' n' c') (by simp [results, Try.results50, go_sem]) rfl ?_
  exact ⟨rfl, (gr3 _ _ _ _).below⟩
set_option maxRecDepth 100000 in
set_option maxHeartbeats 400000 in
theorem rmeet_right (K lo hi : Int) (f t : List UInt8) (o : Bool) (A : Option Addr) (n c : Nat) (lo' hi' : Int) (f' t' : List UInt8) (o' : Bool) (A' : Option Addr) (n' c' : Nat) (w : World) (h4 : K ≠ 4) :
    Calls Try.prog 50 #[.agg #[.int .i64 K, .int .i64 lo, .int .i64 hi, .string ⟨f.toArray⟩, .string ⟨t.toArray⟩, .bool o, .slice A n c], .agg #[.int .i64 4, .int .i64 lo', .int .i64 hi', .string ⟨f'.toArray⟩, .string ⟨t'.toArray⟩, .bool o', .slice A' n' c']] w fun e w' => e = .returned (spF K lo hi f t o A n c) ∧ Below w.heap.size w w' := by
  have hgr := gr3 w (.cells #[.int .i64 K, .int .i64 lo, .int .i64 hi, .string ⟨f.toArray⟩, .string ⟨t.toArray⟩, .bool o, .slice A n c] 58) (.cells #[.int .i64 4, .int .i64 lo', .int .i64 hi', .string ⟨f'.toArray⟩, .string ⟨t'.toArray⟩, .bool o', .slice A' n' c'] 58) (.cells #[.int .i64 0, .int .i64 0, .int .i64 0, .string ⟨#[]⟩, .string ⟨#[]⟩, .bool false, .slice none 0 0] 58)
  have hX := ((Blk.new w 58 #[.int .i64 K, .int .i64 lo, .int .i64 hi, .string ⟨f.toArray⟩, .string ⟨t.toArray⟩, .bool o, .slice A n c]).alloc (.cells #[.int .i64 4, .int .i64 lo', .int .i64 hi', .string ⟨f'.toArray⟩, .string ⟨t'.toArray⟩, .bool o', .slice A' n' c'] 58)).alloc (.cells #[.int .i64 0, .int .i64 0, .int .i64 0, .string ⟨#[]⟩, .string ⟨#[]⟩, .bool false, .slice none 0 0] 58)
  have hX2 := (Blk.new (w.alloc (.cells #[.int .i64 K, .int .i64 lo, .int .i64 hi, .string ⟨f.toArray⟩, .string ⟨t.toArray⟩, .bool o, .slice A n c] 58)) 58 #[.int .i64 4, .int .i64 lo', .int .i64 hi', .string ⟨f'.toArray⟩, .string ⟨t'.toArray⟩, .bool o', .slice A' n' c']).alloc (.cells #[.int .i64 0, .int .i64 0, .int .i64 0, .string ⟨#[]⟩, .string ⟨#[]⟩, .bool false, .slice none 0 0] 58)
  have hY := Blk.new ((w.alloc (.cells #[.int .i64 K, .int .i64 lo, .int .i64 hi, .string ⟨f.toArray⟩, .string ⟨t.toArray⟩, .bool o, .slice A n c] 58)).alloc (.cells #[.int .i64 4, .int .i64 lo', .int .i64 hi', .string ⟨f'.toArray⟩, .string ⟨t'.toArray⟩, .bool o', .slice A' n' c'] 58)) 58 #[.int .i64 0, .int .i64 0, .int .i64 0, .string ⟨#[]⟩, .string ⟨#[]⟩, .bool false, .slice none 0 0]
  rw [show (w.alloc (.cells #[.int .i64 K, .int .i64 lo, .int .i64 hi, .string ⟨f.toArray⟩, .string ⟨t.toArray⟩, .bool o, .slice A n c] 58)).heap.size = w.heap.size + 1 by simp] at hX2
  rw [show ((w.alloc (.cells #[.int .i64 K, .int .i64 lo, .int .i64 hi, .string ⟨f.toArray⟩, .string ⟨t.toArray⟩, .bool o, .slice A n c] 58)).alloc (.cells #[.int .i64 4, .int .i64 lo', .int .i64 hi', .string ⟨f'.toArray⟩, .string ⟨t'.toArray⟩, .bool o', .slice A' n' c'] 58)).heap.size = w.heap.size + 2 by simp] at hY
  have BB := Lib.hid hgr.below
  have HX := Lib.hid hX
  have HX2 := Lib.hid hX2
  have HY := Lib.hid hY
  clear hgr hX hX2 hY
  have v4 : (K == 4) = false := beq_eq_false_iff_ne.2 h4
  clear h4
  obtain ⟨b0, b1, b2, b3, b4, b5, b6, _⟩ := blk7 HX.out
  obtain ⟨z0, z1, z2, z3, z4, z5, z6, q0, q1, q2, q3, q4, q5, q6⟩ := blk7 HY.out
  have hlY := HY.out.lt
  have hlX := HX.out.lt
  have b20 := HX2.out.cell 0
  go_enter Try.func50, Try.ntmps50
  go_wp2_with fail
  refine bodyPost_ret (v := spF K lo hi f t o A n c) (by simp [results, Try.results50, go_sem]) rfl ?_
  exact ⟨rfl, (gr3 _ _ _ _).below⟩
set_option maxRecDepth 100000 in
set_option maxHeartbeats 400000 in
theorem rmeet_unlike (K lo hi : Int) (f t : List UInt8) (o : Bool) (A : Option Addr) (n c : Nat) (K' lo' hi' : Int) (f' t' : List UInt8) (o' : Bool) (A' : Option Addr) (n' c' : Nat) (w : World) (h4 : K ≠ 4) (h4' : K' ≠ 4) (hk : K ≠ K') :
    Calls Try.prog 50 #[.agg #[.int .i64 K, .int .i64 lo, .int .i64 hi, .string ⟨f.toArray⟩, .string ⟨t.toArray⟩, .bool o, .slice A n c], .agg #[.int .i64 K', .int .i64 lo', .int .i64 hi', .string ⟨f'.toArray⟩, .string ⟨t'.toArray⟩, .bool o', .slice A' n' c']] w fun e w' => e = .returned (spF 0 0 0 [] [] false none 0 0) ∧ Below w.heap.size w w' := by
  have hgr := gr3 w (.cells #[.int .i64 K, .int .i64 lo, .int .i64 hi, .string ⟨f.toArray⟩, .string ⟨t.toArray⟩, .bool o, .slice A n c] 58) (.cells #[.int .i64 K', .int .i64 lo', .int .i64 hi', .string ⟨f'.toArray⟩, .string ⟨t'.toArray⟩, .bool o', .slice A' n' c'] 58) (.cells #[.int .i64 0, .int .i64 0, .int .i64 0, .string ⟨#[]⟩, .string ⟨#[]⟩, .bool false, .slice none 0 0] 58)
  have hX := ((Blk.new w 58 #[.int .i64 K, .int .i64 lo, .int .i64 hi, .string ⟨f.toArray⟩, .string ⟨t.toArray⟩, .bool o, .slice A n c]).alloc (.cells #[.int .i64 K', .int .i64 lo', .int .i64 hi', .string ⟨f'.toArray⟩, .string ⟨t'.toArray⟩, .bool o', .slice A' n' c'] 58)).alloc (.cells #[.int .i64 0, .int .i64 0, .int .i64 0, .string ⟨#[]⟩, .string ⟨#[]⟩, .bool false, .slice none 0 0] 58)
  have hX2 := (Blk.new (w.alloc (.cells #[.int .i64 K, .int .i64 lo, .int .i64 hi, .string ⟨f.toArray⟩, .string ⟨t.toArray⟩, .bool o, .slice A n c] 58)) 58 #[.int .i64 K', .int .i64 lo', .int .i64 hi', .string ⟨f'.toArray⟩, .string ⟨t'.toArray⟩, .bool o', .slice A' n' c']).alloc (.cells #[.int .i64 0, .int .i64 0, .int .i64 0, .string ⟨#[]⟩, .string ⟨#[]⟩, .bool false, .slice none 0 0] 58)
  have hY := Blk.new ((w.alloc (.cells #[.int .i64 K, .int .i64 lo, .int .i64 hi, .string ⟨f.toArray⟩, .string ⟨t.toArray⟩, .bool o, .slice A n c] 58)).alloc (.cells #[.int .i64 K', .int .i64 lo', .int .i64 hi', .string ⟨f'.toArray⟩, .string ⟨t'.toArray⟩, .bool o', .slice A' n' c'] 58)) 58 #[.int .i64 0, .int .i64 0, .int .i64 0, .string ⟨#[]⟩, .string ⟨#[]⟩, .bool false, .slice none 0 0]
  rw [show (w.alloc (.cells #[.int .i64 K, .int .i64 lo, .int .i64 hi, .string ⟨f.toArray⟩, .string ⟨t.toArray⟩, .bool o, .slice A n c] 58)).heap.size = w.heap.size + 1 by simp] at hX2
  rw [show ((w.alloc (.cells #[.int .i64 K, .int .i64 lo, .int .i64 hi, .string ⟨f.toArray⟩, .string ⟨t.toArray⟩, .bool o, .slice A n c] 58)).alloc (.cells #[.int .i64 K', .int .i64 lo', .int .i64 hi', .string ⟨f'.toArray⟩, .string ⟨t'.toArray⟩, .bool o', .slice A' n' c'] 58)).heap.size = w.heap.size + 2 by simp] at hY
  have BB := Lib.hid hgr.below
  have HX := Lib.hid hX
  have HX2 := Lib.hid hX2
  have HY := Lib.hid hY
  clear hgr hX hX2 hY
  have v4 : (K == 4) = false := beq_eq_false_iff_ne.2 h4
  have v4' : (K' == 4) = false := beq_eq_false_iff_ne.2 h4'
  have vk : (K != K') = true := by simpa using hk
  clear h4 h4' hk
  go_enter Try.func50, Try.ntmps50
  go_wp2_with fail
  refine bodyPost_ret (v := spF 0 0 0 [] [] false none 0 0) (by simp [results, Try.results50, go_sem]) rfl ?_
  exact ⟨rfl, (gr3 _ _ _ _).below⟩
set_option maxRecDepth 100000 in
set_option maxHeartbeats 400000 in
theorem rmeet_none (lo hi : Int) (f t : List UInt8) (o : Bool) (A : Option Addr) (n c : Nat) (lo' hi' : Int) (f' t' : List UInt8) (o' : Bool) (A' : Option Addr) (n' c' : Nat) (w : World) :
    Calls Try.prog 50 #[.agg #[.int .i64 0, .int .i64 lo, .int .i64 hi, .string ⟨f.toArray⟩, .string ⟨t.toArray⟩, .bool o, .slice A n c], .agg #[.int .i64 0, .int .i64 lo', .int .i64 hi', .string ⟨f'.toArray⟩, .string ⟨t'.toArray⟩, .bool o', .slice A' n' c']] w fun e w' => e = .returned (spF 0 0 0 [] [] false none 0 0) ∧ Below w.heap.size w w' := by
  have hgr := gr3 w (.cells #[.int .i64 0, .int .i64 lo, .int .i64 hi, .string ⟨f.toArray⟩, .string ⟨t.toArray⟩, .bool o, .slice A n c] 58) (.cells #[.int .i64 0, .int .i64 lo', .int .i64 hi', .string ⟨f'.toArray⟩, .string ⟨t'.toArray⟩, .bool o', .slice A' n' c'] 58) (.cells #[.int .i64 0, .int .i64 0, .int .i64 0, .string ⟨#[]⟩, .string ⟨#[]⟩, .bool false, .slice none 0 0] 58)
  have hX := ((Blk.new w 58 #[.int .i64 0, .int .i64 lo, .int .i64 hi, .string ⟨f.toArray⟩, .string ⟨t.toArray⟩, .bool o, .slice A n c]).alloc (.cells #[.int .i64 0, .int .i64 lo', .int .i64 hi', .string ⟨f'.toArray⟩, .string ⟨t'.toArray⟩, .bool o', .slice A' n' c'] 58)).alloc (.cells #[.int .i64 0, .int .i64 0, .int .i64 0, .string ⟨#[]⟩, .string ⟨#[]⟩, .bool false, .slice none 0 0] 58)
  have hX2 := (Blk.new (w.alloc (.cells #[.int .i64 0, .int .i64 lo, .int .i64 hi, .string ⟨f.toArray⟩, .string ⟨t.toArray⟩, .bool o, .slice A n c] 58)) 58 #[.int .i64 0, .int .i64 lo', .int .i64 hi', .string ⟨f'.toArray⟩, .string ⟨t'.toArray⟩, .bool o', .slice A' n' c']).alloc (.cells #[.int .i64 0, .int .i64 0, .int .i64 0, .string ⟨#[]⟩, .string ⟨#[]⟩, .bool false, .slice none 0 0] 58)
  have hY := Blk.new ((w.alloc (.cells #[.int .i64 0, .int .i64 lo, .int .i64 hi, .string ⟨f.toArray⟩, .string ⟨t.toArray⟩, .bool o, .slice A n c] 58)).alloc (.cells #[.int .i64 0, .int .i64 lo', .int .i64 hi', .string ⟨f'.toArray⟩, .string ⟨t'.toArray⟩, .bool o', .slice A' n' c'] 58)) 58 #[.int .i64 0, .int .i64 0, .int .i64 0, .string ⟨#[]⟩, .string ⟨#[]⟩, .bool false, .slice none 0 0]
  rw [show (w.alloc (.cells #[.int .i64 0, .int .i64 lo, .int .i64 hi, .string ⟨f.toArray⟩, .string ⟨t.toArray⟩, .bool o, .slice A n c] 58)).heap.size = w.heap.size + 1 by simp] at hX2
  rw [show ((w.alloc (.cells #[.int .i64 0, .int .i64 lo, .int .i64 hi, .string ⟨f.toArray⟩, .string ⟨t.toArray⟩, .bool o, .slice A n c] 58)).alloc (.cells #[.int .i64 0, .int .i64 lo', .int .i64 hi', .string ⟨f'.toArray⟩, .string ⟨t'.toArray⟩, .bool o', .slice A' n' c'] 58)).heap.size = w.heap.size + 2 by simp] at hY
  have BB := Lib.hid hgr.below
  have HX := Lib.hid hX
  have HX2 := Lib.hid hX2
  have HY := Lib.hid hY
  clear hgr hX hX2 hY
  go_enter Try.func50, Try.ntmps50
  go_wp2_with fail
  refine bodyPost_ret (v := spF 0 0 0 [] [] false none 0 0) (by simp [results, Try.results50, go_sem]) rfl ?_
  exact ⟨rfl, (gr3 _ _ _ _).below⟩
end Go.Proofs.Ytckabmlilbkmbaa
namespace Go.Proofs.Ytckabmlilbkmbaa
open Go.RowKit Go.Sort Spans Op
set_option maxRecDepth 100000 in
set_option maxHeartbeats 400000 in
theorem rmeet_1 (lo hi : Int) (A : Option Addr) (n c : Nat) (lo' hi' : Int) (A' : Option Addr) (n' c' : Nat) (w : World) (es fs : List Val) (hlow : lowest 1 ≤ max lo lo') (hhigh : min hi hi' ≤ highest 1) (hl : ∀ v ∈ es ++ fs, v.k = 1 ∧ v.t = []) (hn : es.length = n) (hm : n ≤ 500) (hn' : fs.length = n') (hm' : n' ≤ 500) (hr : RdW w A es) (hr' : RdW w A' fs) :
    Calls Try.prog 50 #[spF 1 lo hi [] [] false A n c, spF 1 lo' hi' [] [] false A' n' c'] w (GivesS w (IsInts 1 (max lo lo') (min hi hi') (es ++ fs)) (n + n')) := by
  have HN := Lib.hid hn
  have HN' := Lib.hid hn'
  have R1 := Lib.hid hr
  have R2 := Lib.hid hr'
  have HLL := Lib.hid hl
  clear hn hn' hr hr' hl
  have hgr := gr3 w (.cells #[.int .i64 1, .int .i64 lo, .int .i64 hi, .string ⟨#[]⟩, .string ⟨#[]⟩, .bool false, .slice A n c] 58) (.cells #[.int .i64 1, .int .i64 lo', .int .i64 hi', .string ⟨#[]⟩, .string ⟨#[]⟩, .bool false, .slice A' n' c'] 58) (.cells #[.int .i64 0, .int .i64 0, .int .i64 0, .string ⟨#[]⟩, .string ⟨#[]⟩, .bool false, .slice none 0 0] 58)
  have hX := ((Blk.new w 58 #[.int .i64 1, .int .i64 lo, .int .i64 hi, .string ⟨#[]⟩, .string ⟨#[]⟩, .bool false, .slice A n c]).alloc (.cells #[.int .i64 1, .int .i64 lo', .int .i64 hi', .string ⟨#[]⟩, .string ⟨#[]⟩, .bool false, .slice A' n' c'] 58)).alloc (.cells #[.int .i64 0, .int .i64 0, .int .i64 0, .string ⟨#[]⟩, .string ⟨#[]⟩, .bool false, .slice none 0 0] 58)
  have hX2 := (Blk.new (w.alloc (.cells #[.int .i64 1, .int .i64 lo, .int .i64 hi, .string ⟨#[]⟩, .string ⟨#[]⟩, .bool false, .slice A n c] 58)) 58 #[.int .i64 1, .int .i64 lo', .int .i64 hi', .string ⟨#[]⟩, .string ⟨#[]⟩, .bool false, .slice A' n' c']).alloc (.cells #[.int .i64 0, .int .i64 0, .int .i64 0, .string ⟨#[]⟩, .string ⟨#[]⟩, .bool false, .slice none 0 0] 58)
  have hY := Blk.new ((w.alloc (.cells #[.int .i64 1, .int .i64 lo, .int .i64 hi, .string ⟨#[]⟩, .string ⟨#[]⟩, .bool false, .slice A n c] 58)).alloc (.cells #[.int .i64 1, .int .i64 lo', .int .i64 hi', .string ⟨#[]⟩, .string ⟨#[]⟩, .bool false, .slice A' n' c'] 58)) 58 #[.int .i64 0, .int .i64 0, .int .i64 0, .string ⟨#[]⟩, .string ⟨#[]⟩, .bool false, .slice none 0 0]
  rw [show (w.alloc (.cells #[.int .i64 1, .int .i64 lo, .int .i64 hi, .string ⟨#[]⟩, .string ⟨#[]⟩, .bool false, .slice A n c] 58)).heap.size = w.heap.size + 1 by simp] at hX2
  rw [show ((w.alloc (.cells #[.int .i64 1, .int .i64 lo, .int .i64 hi, .string ⟨#[]⟩, .string ⟨#[]⟩, .bool false, .slice A n c] 58)).alloc (.cells #[.int .i64 1, .int .i64 lo', .int .i64 hi', .string ⟨#[]⟩, .string ⟨#[]⟩, .bool false, .slice A' n' c'] 58)).heap.size = w.heap.size + 2 by simp] at hY
  have BB := Lib.hid hgr.below
  have HX := Lib.hid hX
  have HX2 := Lib.hid hX2
  have HY := Lib.hid hY
  clear hgr hX hX2 hY
  go_enter Try.func50, Try.ntmps50
  go_wp2_with fail
  generalize (((w.alloc (.cells #[.int .i64 1, .int .i64 lo, .int .i64 hi, .string ⟨#[]⟩, .string ⟨#[]⟩, .bool false, .slice A n c] 58)).alloc (.cells #[.int .i64 1, .int .i64 lo', .int .i64 hi', .string ⟨#[]⟩, .string ⟨#[]⟩, .bool false, .slice A' n' c'] 58)).alloc (.cells #[.int .i64 0, .int .i64 0, .int .i64 0, .string ⟨#[]⟩, .string ⟨#[]⟩, .bool false, .slice none 0 0] 58)) = w0 at *
  have hS0 : Blk w0.drew w.heap.size 58 #[.int .i64 1, .int .i64 lo, .int .i64 hi, .string ⟨#[]⟩, .string ⟨#[]⟩, .bool false, .slice A n c] ∧ Blk w0.drew (w.heap.size + 1) 58 #[.int .i64 1, .int .i64 lo', .int .i64 hi', .string ⟨#[]⟩, .string ⟨#[]⟩, .bool false, .slice A' n' c'] := ⟨HX.out, HX2.out⟩
  refine wp_region_held_drew (S := fun w' => Blk w' w.heap.size 58 #[.int .i64 1, .int .i64 lo, .int .i64 hi, .string ⟨#[]⟩, .string ⟨#[]⟩, .bool false, .slice A n c] ∧ Blk w' (w.heap.size + 1) 58 #[.int .i64 1, .int .i64 lo', .int .i64 hi', .string ⟨#[]⟩, .string ⟨#[]⟩, .bool false, .slice A' n' c']) (by kernel_rfl) hS0 (fun _ => ?_)
  refine wpAnyH_yes (i := 1) (d := 28) (v := ?_) rfl rfl (by kernel_rfl) (by kernel_rfl) (by kernel_rfl) (fun _ _ _ h => h) (by rfl) ?_ hS0 ?_
  rotate_left
  · intro w' hSw; obtain ⟨r0, r1, r2, r3, r4, r5, r6, _⟩ := blk7 hSw.1; obtain ⟨m0, m1, m2, m3, m4, m5, m6, _⟩ := blk7 hSw.2; go_simp <;> with_reducible rfl
  simp only [Act.put, List.setIfInBounds_toArray, List.set_cons_zero, List.set_cons_succ]
  refine wpAnyH_yes (i := 2) (d := 29) (v := ?_) rfl rfl (by kernel_rfl) (by kernel_rfl) (by kernel_rfl) (fun _ _ _ h => h) (by rfl) ?_ hS0 ?_
  rotate_left
  · intro w' hSw; obtain ⟨r0, r1, r2, r3, r4, r5, r6, _⟩ := blk7 hSw.1; obtain ⟨m0, m1, m2, m3, m4, m5, m6, _⟩ := blk7 hSw.2; go_simp <;> with_reducible rfl
  simp only [Act.put, List.setIfInBounds_toArray, List.set_cons_zero, List.set_cons_succ]
  refine wpAnyH_yes (i := 4) (d := 31) (v := ?_) rfl rfl (by kernel_rfl) (by kernel_rfl) (by kernel_rfl) (fun _ _ _ h => h) (by rfl) ?_ hS0 ?_
  rotate_left
  · intro w' hSw; obtain ⟨r0, r1, r2, r3, r4, r5, r6, _⟩ := blk7 hSw.1; obtain ⟨m0, m1, m2, m3, m4, m5, m6, _⟩ := blk7 hSw.2; go_simp <;> with_reducible rfl
  simp only [Act.put, List.setIfInBounds_toArray, List.set_cons_zero, List.set_cons_succ]
  refine wpAnyH_yes (i := 5) (d := 32) (v := ?_) rfl rfl (by kernel_rfl) (by kernel_rfl) (by kernel_rfl) (fun _ _ _ h => h) (by rfl) ?_ hS0 ?_
  rotate_left
  · intro w' hSw; obtain ⟨r0, r1, r2, r3, r4, r5, r6, _⟩ := blk7 hSw.1; obtain ⟨m0, m1, m2, m3, m4, m5, m6, _⟩ := blk7 hSw.2; go_simp <;> with_reducible rfl
  simp only [Act.put, List.setIfInBounds_toArray, List.set_cons_zero, List.set_cons_succ]
  have HX' := Lib.hid (Blk.below HX.out (show Below w0.heap.size w0 w0.drew from (Below.refl _ _).drew) HX.out.lt)
  have HX2' := Lib.hid (Blk.below HX2.out (show Below w0.heap.size w0 w0.drew from (Below.refl _ _).drew) HX2.out.lt)
  have HY' := Lib.hid (Blk.below HY.out (show Below w0.heap.size w0 w0.drew from (Below.refl _ _).drew) HY.out.lt)
  have BB' := Lib.hid BB.out.drew
  clear hS0 HX HX2 HY BB
  have HX := HX'
  clear HX'
  have HX2 := HX2'
  clear HX2'
  have HY := HY'
  clear HY'
  have BB := BB'
  clear BB'
  generalize w0.drew = wA at *
  refine wpAnyH_one (i := 0) (by kernel_rfl) rfl (by rfl) (fun K hK => ?_)
  go_simp
  have hO0 : OwnW (wA.alloc (.cells #[] 45)) wA.heap.size (.slice (some ⟨wA.heap.size, 0, none⟩) 0 0) [] := OwnK.empty wA wA.heap.size (Nat.le_refl _)
  have hb : Below wA.heap.size wA (wA.alloc (.cells #[] 45)) := (gr1 wA _).below
  have hs6 := hb.size
  have hB7 : w.heap.size ≤ wA.heap.size := BB.out.size
  have hlX := HX.out.lt
  have hlX2 := HX2.out.lt
  have hlY := HY.out.lt
  replace HX := Lib.hid (Blk.below HX.out hb HX.out.lt)
  replace HX2 := Lib.hid (Blk.below HX2.out hb HX2.out.lt)
  replace HY := Lib.hid (Blk.below HY.out hb HY.out.lt)
  replace BB := Lib.hid (below_next BB.out (Nat.le_refl _) hb)
  clear hb
  generalize (wA.alloc (.cells #[] 45)) = wB at *
  refine hK.out _ _ ⟨HX.out, HX2.out⟩ ?_
  clear hK
  generalize wA.heap.size = B7 at *
  have HN0 : Hid ((es : List Val).length = n) := HN
  refine wpAnyH_one (i := 3) (by kernel_rfl) rfl (by rfl) (fun K hK => ?_)
  refine op_append_k layV (.tmp 27) (.tmp 29) 56 underV (by rfl) B7 _ ([]) (by rfl) hO0 A (es) (n) (c) (by rfl) (RdK.below R1.out BB.out) HN.out (by rw [maxLen_num]; simp; omega) (by simp only [layV]; simp; omega) hs6 ?_
  intro v3 wC o7 hbx
  have hb7 : Below B7 wB wC := hbx wB (Below.refl _ _)
  clear hbx
  replace HX := Lib.hid (Blk.below HX.out hb7 (by omega))
  replace HX2 := Lib.hid (Blk.below HX2.out hb7 (by omega))
  replace HY := Lib.hid (Blk.below HY.out hb7 (by omega))
  replace BB := Lib.hid (BB.out.trans (hb7.mono (by omega)))
  replace hs6 := Nat.le_trans hs6 hb7.size
  clear hb7
  rw [List.nil_append] at o7
  obtain ⟨A7, c7, hv7, hc7, _⟩ := OwnK.form o7 HN.out
  subst hv7
  refine hK.out _ _ ⟨HX.out, HX2.out⟩ ?_
  clear hK hO0
  simp only [Act.put, List.setIfInBounds_toArray, List.set_cons_zero, List.set_cons_succ]
  refine wpAnyH_one (i := 6) (by kernel_rfl) rfl (by rfl) (fun K hK => ?_)
  refine op_append_k layV (.tmp 30) (.tmp 32) 56 underV (by rfl) B7 _ (es) (by rfl) o7 A' (fs) (n') (c') (by rfl) (RdK.below R2.out BB.out) HN'.out (by rw [maxLen_num]; rw [HN.out]; omega) (by simp only [layV]; rw [HN.out]; omega) hs6 ?_
  intro v6 wD o9 hbx
  have hb7 : Below B7 wC wD := hbx wC (Below.refl _ _)
  clear hbx
  replace HX := Lib.hid (Blk.below HX.out hb7 (by omega))
  replace HX2 := Lib.hid (Blk.below HX2.out hb7 (by omega))
  replace HY := Lib.hid (Blk.below HY.out hb7 (by omega))
  replace BB := Lib.hid (BB.out.trans (hb7.mono (by omega)))
  replace hs6 := Nat.le_trans hs6 hb7.size
  clear hb7
  obtain ⟨A9, c9, hv9, hc9, _⟩ := OwnK.form o9 (n := n + n') (by rw [List.length_append, HN.out, HN'.out])
  subst hv9
  have HO := Lib.hid o9
  clear o9 o7 HN0
  refine hK.out _ _ ⟨HX.out, HX2.out⟩ ?_
  clear hK
  simp only [Act.put, List.setIfInBounds_toArray, List.set_cons_zero, List.set_cons_succ]
  refine wpAnyH_yes (i := 7) (d := 5) (v := ?_) rfl rfl (by kernel_rfl) (by kernel_rfl) (by kernel_rfl) (fun _ _ _ h => h) (by rfl) ?_ ⟨HX.out, HX2.out⟩ ?_
  rotate_left
  · intro w' hSw; obtain ⟨r0, r1, r2, r3, r4, r5, r6, _⟩ := blk7 hSw.1; obtain ⟨m0, m1, m2, m3, m4, m5, m6, _⟩ := blk7 hSw.2; go_simp <;> with_reducible rfl
  simp only [Act.put, List.setIfInBounds_toArray, List.set_cons_zero, List.set_cons_succ]
  refine wpAnyH_done (by kernel_rfl) ?_ _
  clear hs6 hlX hlX2 hlY
  obtain ⟨a0, a1, a2, a3, a4, a5, a6, _⟩ := blk7 HX.out
  obtain ⟨b0, b1, b2, b3, b4, b5, b6, _⟩ := blk7 HX2.out
  have hlX := HX.out.lt
  have hlX2 := HX2.out.lt
  go_wp2_with fail
  clear a0 a1 a2 a3 a4 a5 a6 b0 b1 b2 b3 b4 b5 b6 hlX hlX2
  refine (rints_at 1 (max lo lo') (min hi hi') A9 (es ++ fs) (n + n') c9 (by decide) hlow hhigh (by rw [List.length_append, HN.out, HN'.out]) (by omega) HLL.out wD (rdk_own' HO.out)).mono ?_
  rintro e wE ⟨⟨rK, rlo, rhi, rf, rt, ro, rno⟩, hin, hrl, A7, n7, c7, rfl, hl7, hc7, ho7, hb7⟩
  dsimp only at hrl hl7 ho7
  have HIN := Lib.hid hin
  clear hin
  have hY3 := Blk.below HY.out hb7 HY.out.lt
  have hB3 := below_next BB.out (Nat.le_refl _) hb7
  obtain ⟨u0, u1, u2, u3, u4, u5, u6, q0, q1, q2, q3, q4, q5, q6⟩ := blk7 hY3
  have hlY := hY3.lt
  have HL7 := Lib.hid hl7
  have HC7 := Lib.hid hc7
  have hs7 : w.heap.size + 2 < wD.heap.size := HY.out.lt
  have HO7 := Lib.hid ho7
  have HB3 := Lib.hid hB3
  clear hb7 hl7 hc7 ho7 hB3 hY3 HX HX2 HO
  go_wp2_with fail
  refine bodyPost_ret (v := spF rK rlo rhi rf rt ro A7 n7 c7) (by simp [results, Try.results50, go_sem, u0, u1, u2, u3, u4, u5, u6]) rfl ?_
  exact ⟨⟨rK, rlo, rhi, rf, rt, ro, rno⟩, HIN.out, by show rno.length ≤ n + n'; have := hrl; omega, A7, n7, c7, rfl, HL7.out, HC7.out, (OwnK.put7 HO7.out (by omega) _ _ _ _ _ _ _).less (by omega), below_put7 HB3.out (by omega) _ _ _ _ _ _ _⟩
end Go.Proofs.Ytckabmlilbkmbaa
namespace Go.Proofs.Ytckabmlilbkmbaa
open Go.RowKit Go.Sort Spans Op
theorem rtexts_is (frm to_ : List UInt8) (opn : Bool) (A : Option Addr) (l : List Val) (n c : Nat) (hf : Short frm) (ho : opn = true → to_ = []) (ht : opn = false → Short to_) (hn : l.length = n) (hm : n ≤ 1000) (hl : ∀ v ∈ l, v.k = 2 ∧ v.i = 0 ∧ v.t.length ≤ 32) (w : World) (hr : RdW w A l) :
    Calls Try.prog 70 #[.string ⟨frm.toArray⟩, .string ⟨to_.toArray⟩, .bool opn, .slice A n c] w (GivesS w (IsTexts frm to_ opn l) n) := by
  cases opn with
  | true => obtain rfl := ho rfl; exact rtexts_open frm A l n c hf hn hm hl w hr
  | false => exact rtexts_shut frm to_ A l n c hf (ht rfl) hn hm hl w hr
set_option maxRecDepth 100000 in
set_option maxHeartbeats 400000 in
theorem rmeet_2 (f t : List UInt8) (o : Bool) (A : Option Addr) (n c : Nat) (f' t' : List UInt8) (o' : Bool) (A' : Option Addr) (n' c' : Nat) (w : World) (es fs : List Val) (ff : List UInt8) (hf : maxT f f' = ff) (tt : List UInt8) (ht : (if o then t' else if o' then t else minT t t') = tt) (hshort : Short ff) (hop : (o && o') = true → tt = []) (hsh : (o && o') = false → Short tt) (hlf : f.length ≤ 9223372036854775807) (hlf' : f'.length ≤ 9223372036854775807) (hltt : t.length ≤ 9223372036854775807) (hlt' : t'.length ≤ 9223372036854775807) (hl : ∀ v ∈ es ++ fs, v.k = 2 ∧ v.i = 0 ∧ v.t.length ≤ 32) (hn : es.length = n) (hm : n ≤ 500) (hn' : fs.length = n') (hm' : n' ≤ 500) (hr : RdW w A es) (hr' : RdW w A' fs) :
    Calls Try.prog 50 #[spF 2 0 0 f t o A n c, spF 2 0 0 f' t' o' A' n' c'] w (GivesS w (IsTexts ff tt (o && o') (es ++ fs)) (n + n')) := by
  have HN := Lib.hid hn
  have HN' := Lib.hid hn'
  have R1 := Lib.hid hr
  have R2 := Lib.hid hr'
  have HLL := Lib.hid hl
  clear hn hn' hr hr' hl
  have HF := Lib.hid hf
  have HT := Lib.hid ht
  have HS := Lib.hid hshort
  have HOP := Lib.hid hop
  have HSH := Lib.hid hsh
  clear hf ht hshort hop hsh
  have hgr := gr3 w (.cells #[.int .i64 2, .int .i64 0, .int .i64 0, .string ⟨f.toArray⟩, .string ⟨t.toArray⟩, .bool o, .slice A n c] 58) (.cells #[.int .i64 2, .int .i64 0, .int .i64 0, .string ⟨f'.toArray⟩, .string ⟨t'.toArray⟩, .bool o', .slice A' n' c'] 58) (.cells #[.int .i64 0, .int .i64 0, .int .i64 0, .string ⟨#[]⟩, .string ⟨#[]⟩, .bool false, .slice none 0 0] 58)
  have hX := ((Blk.new w 58 #[.int .i64 2, .int .i64 0, .int .i64 0, .string ⟨f.toArray⟩, .string ⟨t.toArray⟩, .bool o, .slice A n c]).alloc (.cells #[.int .i64 2, .int .i64 0, .int .i64 0, .string ⟨f'.toArray⟩, .string ⟨t'.toArray⟩, .bool o', .slice A' n' c'] 58)).alloc (.cells #[.int .i64 0, .int .i64 0, .int .i64 0, .string ⟨#[]⟩, .string ⟨#[]⟩, .bool false, .slice none 0 0] 58)
  have hX2 := (Blk.new (w.alloc (.cells #[.int .i64 2, .int .i64 0, .int .i64 0, .string ⟨f.toArray⟩, .string ⟨t.toArray⟩, .bool o, .slice A n c] 58)) 58 #[.int .i64 2, .int .i64 0, .int .i64 0, .string ⟨f'.toArray⟩, .string ⟨t'.toArray⟩, .bool o', .slice A' n' c']).alloc (.cells #[.int .i64 0, .int .i64 0, .int .i64 0, .string ⟨#[]⟩, .string ⟨#[]⟩, .bool false, .slice none 0 0] 58)
  have hY := Blk.new ((w.alloc (.cells #[.int .i64 2, .int .i64 0, .int .i64 0, .string ⟨f.toArray⟩, .string ⟨t.toArray⟩, .bool o, .slice A n c] 58)).alloc (.cells #[.int .i64 2, .int .i64 0, .int .i64 0, .string ⟨f'.toArray⟩, .string ⟨t'.toArray⟩, .bool o', .slice A' n' c'] 58)) 58 #[.int .i64 0, .int .i64 0, .int .i64 0, .string ⟨#[]⟩, .string ⟨#[]⟩, .bool false, .slice none 0 0]
  rw [show (w.alloc (.cells #[.int .i64 2, .int .i64 0, .int .i64 0, .string ⟨f.toArray⟩, .string ⟨t.toArray⟩, .bool o, .slice A n c] 58)).heap.size = w.heap.size + 1 by simp] at hX2
  rw [show ((w.alloc (.cells #[.int .i64 2, .int .i64 0, .int .i64 0, .string ⟨f.toArray⟩, .string ⟨t.toArray⟩, .bool o, .slice A n c] 58)).alloc (.cells #[.int .i64 2, .int .i64 0, .int .i64 0, .string ⟨f'.toArray⟩, .string ⟨t'.toArray⟩, .bool o', .slice A' n' c'] 58)).heap.size = w.heap.size + 2 by simp] at hY
  have BB := Lib.hid hgr.below
  have HX := Lib.hid hX
  have HX2 := Lib.hid hX2
  have HY := Lib.hid hY
  clear hgr hX hX2 hY
  go_enter Try.func50, Try.ntmps50
  go_wp2_with fail
  generalize (((w.alloc (.cells #[.int .i64 2, .int .i64 0, .int .i64 0, .string ⟨f.toArray⟩, .string ⟨t.toArray⟩, .bool o, .slice A n c] 58)).alloc (.cells #[.int .i64 2, .int .i64 0, .int .i64 0, .string ⟨f'.toArray⟩, .string ⟨t'.toArray⟩, .bool o', .slice A' n' c'] 58)).alloc (.cells #[.int .i64 0, .int .i64 0, .int .i64 0, .string ⟨#[]⟩, .string ⟨#[]⟩, .bool false, .slice none 0 0] 58)) = w0 at *
  have hS0 : Blk w0.drew w.heap.size 58 #[.int .i64 2, .int .i64 0, .int .i64 0, .string ⟨f.toArray⟩, .string ⟨t.toArray⟩, .bool o, .slice A n c] ∧ Blk w0.drew (w.heap.size + 1) 58 #[.int .i64 2, .int .i64 0, .int .i64 0, .string ⟨f'.toArray⟩, .string ⟨t'.toArray⟩, .bool o', .slice A' n' c'] := ⟨HX.out, HX2.out⟩
  refine wp_region_held_drew (S := fun w' => Blk w' w.heap.size 58 #[.int .i64 2, .int .i64 0, .int .i64 0, .string ⟨f.toArray⟩, .string ⟨t.toArray⟩, .bool o, .slice A n c] ∧ Blk w' (w.heap.size + 1) 58 #[.int .i64 2, .int .i64 0, .int .i64 0, .string ⟨f'.toArray⟩, .string ⟨t'.toArray⟩, .bool o', .slice A' n' c']) (by kernel_rfl) hS0 (fun _ => ?_)
  refine wpAnyH_yes (i := 1) (d := 28) (v := ?_) rfl rfl (by kernel_rfl) (by kernel_rfl) (by kernel_rfl) (fun _ _ _ h => h) (by rfl) ?_ hS0 ?_
  rotate_left
  · intro w' hSw; obtain ⟨r0, r1, r2, r3, r4, r5, r6, _⟩ := blk7 hSw.1; obtain ⟨m0, m1, m2, m3, m4, m5, m6, _⟩ := blk7 hSw.2; go_simp <;> with_reducible rfl
  simp only [Act.put, List.setIfInBounds_toArray, List.set_cons_zero, List.set_cons_succ]
  refine wpAnyH_yes (i := 2) (d := 29) (v := ?_) rfl rfl (by kernel_rfl) (by kernel_rfl) (by kernel_rfl) (fun _ _ _ h => h) (by rfl) ?_ hS0 ?_
  rotate_left
  · intro w' hSw; obtain ⟨r0, r1, r2, r3, r4, r5, r6, _⟩ := blk7 hSw.1; obtain ⟨m0, m1, m2, m3, m4, m5, m6, _⟩ := blk7 hSw.2; go_simp <;> with_reducible rfl
  simp only [Act.put, List.setIfInBounds_toArray, List.set_cons_zero, List.set_cons_succ]
  refine wpAnyH_yes (i := 4) (d := 31) (v := ?_) rfl rfl (by kernel_rfl) (by kernel_rfl) (by kernel_rfl) (fun _ _ _ h => h) (by rfl) ?_ hS0 ?_
  rotate_left
  · intro w' hSw; obtain ⟨r0, r1, r2, r3, r4, r5, r6, _⟩ := blk7 hSw.1; obtain ⟨m0, m1, m2, m3, m4, m5, m6, _⟩ := blk7 hSw.2; go_simp <;> with_reducible rfl
  simp only [Act.put, List.setIfInBounds_toArray, List.set_cons_zero, List.set_cons_succ]
  refine wpAnyH_yes (i := 5) (d := 32) (v := ?_) rfl rfl (by kernel_rfl) (by kernel_rfl) (by kernel_rfl) (fun _ _ _ h => h) (by rfl) ?_ hS0 ?_
  rotate_left
  · intro w' hSw; obtain ⟨r0, r1, r2, r3, r4, r5, r6, _⟩ := blk7 hSw.1; obtain ⟨m0, m1, m2, m3, m4, m5, m6, _⟩ := blk7 hSw.2; go_simp <;> with_reducible rfl
  simp only [Act.put, List.setIfInBounds_toArray, List.set_cons_zero, List.set_cons_succ]
  have HX' := Lib.hid (Blk.below HX.out (show Below w0.heap.size w0 w0.drew from (Below.refl _ _).drew) HX.out.lt)
  have HX2' := Lib.hid (Blk.below HX2.out (show Below w0.heap.size w0 w0.drew from (Below.refl _ _).drew) HX2.out.lt)
  have HY' := Lib.hid (Blk.below HY.out (show Below w0.heap.size w0 w0.drew from (Below.refl _ _).drew) HY.out.lt)
  have BB' := Lib.hid BB.out.drew
  clear hS0 HX HX2 HY BB
  have HX := HX'
  clear HX'
  have HX2 := HX2'
  clear HX2'
  have HY := HY'
  clear HY'
  have BB := BB'
  clear BB'
  generalize w0.drew = wA at *
  refine wpAnyH_one (i := 0) (by kernel_rfl) rfl (by rfl) (fun K hK => ?_)
  go_simp
  have hO0 : OwnW (wA.alloc (.cells #[] 45)) wA.heap.size (.slice (some ⟨wA.heap.size, 0, none⟩) 0 0) [] := OwnK.empty wA wA.heap.size (Nat.le_refl _)
  have hb : Below wA.heap.size wA (wA.alloc (.cells #[] 45)) := (gr1 wA _).below
  have hs6 := hb.size
  have hB7 : w.heap.size ≤ wA.heap.size := BB.out.size
  have hlX := HX.out.lt
  have hlX2 := HX2.out.lt
  have hlY := HY.out.lt
  replace HX := Lib.hid (Blk.below HX.out hb HX.out.lt)
  replace HX2 := Lib.hid (Blk.below HX2.out hb HX2.out.lt)
  replace HY := Lib.hid (Blk.below HY.out hb HY.out.lt)
  replace BB := Lib.hid (below_next BB.out (Nat.le_refl _) hb)
  clear hb
  generalize (wA.alloc (.cells #[] 45)) = wB at *
  refine hK.out _ _ ⟨HX.out, HX2.out⟩ ?_
  clear hK
  generalize wA.heap.size = B7 at *
  have HN0 : Hid ((es : List Val).length = n) := HN
  refine wpAnyH_one (i := 3) (by kernel_rfl) rfl (by rfl) (fun K hK => ?_)
  refine op_append_k layV (.tmp 27) (.tmp 29) 56 underV (by rfl) B7 _ ([]) (by rfl) hO0 A (es) (n) (c) (by rfl) (RdK.below R1.out BB.out) HN.out (by rw [maxLen_num]; simp; omega) (by simp only [layV]; simp; omega) hs6 ?_
  intro v3 wC o7 hbx
  have hb7 : Below B7 wB wC := hbx wB (Below.refl _ _)
  clear hbx
  replace HX := Lib.hid (Blk.below HX.out hb7 (by omega))
  replace HX2 := Lib.hid (Blk.below HX2.out hb7 (by omega))
  replace HY := Lib.hid (Blk.below HY.out hb7 (by omega))
  replace BB := Lib.hid (BB.out.trans (hb7.mono (by omega)))
  replace hs6 := Nat.le_trans hs6 hb7.size
  clear hb7
  rw [List.nil_append] at o7
  obtain ⟨A7, c7, hv7, hc7, _⟩ := OwnK.form o7 HN.out
  subst hv7
  refine hK.out _ _ ⟨HX.out, HX2.out⟩ ?_
  clear hK hO0
  simp only [Act.put, List.setIfInBounds_toArray, List.set_cons_zero, List.set_cons_succ]
  refine wpAnyH_one (i := 6) (by kernel_rfl) rfl (by rfl) (fun K hK => ?_)
  refine op_append_k layV (.tmp 30) (.tmp 32) 56 underV (by rfl) B7 _ (es) (by rfl) o7 A' (fs) (n') (c') (by rfl) (RdK.below R2.out BB.out) HN'.out (by rw [maxLen_num]; rw [HN.out]; omega) (by simp only [layV]; rw [HN.out]; omega) hs6 ?_
  intro v6 wD o9 hbx
  have hb7 : Below B7 wC wD := hbx wC (Below.refl _ _)
  clear hbx
  replace HX := Lib.hid (Blk.below HX.out hb7 (by omega))
  replace HX2 := Lib.hid (Blk.below HX2.out hb7 (by omega))
  replace HY := Lib.hid (Blk.below HY.out hb7 (by omega))
  replace BB := Lib.hid (BB.out.trans (hb7.mono (by omega)))
  replace hs6 := Nat.le_trans hs6 hb7.size
  clear hb7
  obtain ⟨A9, c9, hv9, hc9, _⟩ := OwnK.form o9 (n := n + n') (by rw [List.length_append, HN.out, HN'.out])
  subst hv9
  have HO := Lib.hid o9
  clear o9 o7 HN0
  refine hK.out _ _ ⟨HX.out, HX2.out⟩ ?_
  clear hK
  simp only [Act.put, List.setIfInBounds_toArray, List.set_cons_zero, List.set_cons_succ]
  refine wpAnyH_yes (i := 7) (d := 5) (v := ?_) rfl rfl (by kernel_rfl) (by kernel_rfl) (by kernel_rfl) (fun _ _ _ h => h) (by rfl) ?_ ⟨HX.out, HX2.out⟩ ?_
  rotate_left
  · intro w' hSw; obtain ⟨r0, r1, r2, r3, r4, r5, r6, _⟩ := blk7 hSw.1; obtain ⟨m0, m1, m2, m3, m4, m5, m6, _⟩ := blk7 hSw.2; go_simp <;> with_reducible rfl
  simp only [Act.put, List.setIfInBounds_toArray, List.set_cons_zero, List.set_cons_succ]
  refine wpAnyH_done (by kernel_rfl) ?_ _
  clear hs6 hlX hlX2 hlY
  obtain ⟨a0, a1, a2, a3, a4, a5, a6, _⟩ := blk7 HX.out
  obtain ⟨b0, b1, b2, b3, b4, b5, b6, _⟩ := blk7 HX2.out
  have hlX := HX.out.lt
  have hlX2 := HX2.out.lt
  obtain ⟨z1, hz1⟩ : ∃ z, Vals.cmpT f f' = z := ⟨_, rfl⟩
  have HZ1 := Lib.hid hz1
  clear hz1
  go_wp2_with fail
  refine (textG_at f f' hlf hlf' wD).mono ?_
  rintro e wE ⟨rfl, hg⟩
  rw [HZ1.out]
  have hb := hg.below
  clear hg
  clear a0 a1 a2 a3 a4 a5 a6 b0 b1 b2 b3 b4 b5 b6 hlX hlX2
  replace HX := Lib.hid (Blk.below HX.out hb HX.out.lt)
  replace HX2 := Lib.hid (Blk.below HX2.out hb HX2.out.lt)
  replace HY := Lib.hid (Blk.below HY.out hb HY.out.lt)
  replace BB := Lib.hid (below_next BB.out (Nat.le_refl _) hb)
  replace HO := Lib.hid (OwnK.below HO.out hb)
  clear hb
  obtain ⟨a0, a1, a2, a3, a4, a5, a6, _⟩ := blk7 HX.out
  obtain ⟨b0, b1, b2, b3, b4, b5, b6, _⟩ := blk7 HX2.out
  have hlX := HX.out.lt
  have hlX2 := HX2.out.lt
  cases hlt : bytesLess f f' with
  | true =>
    have u5 : decide (z1 < 0) = true := decide_eq_true (by rw [← HZ1.out]; exact (cmpT_neg_iff f f').2 hlt)
    have HFF : Hid (f' = ff) := by show _ = _; rw [← HF.out]; unfold maxT; rw [if_pos hlt]
    clear hlt
    cases o with
    | true =>
      cases o' with
      | true =>
        have HTT : Hid (t' = tt) := by show _ = _; rw [← HT.out]; rfl
        go_wp2_with fail
        rw [HFF.out, HTT.out]
        clear a0 a1 a2 a3 a4 a5 a6 b0 b1 b2 b3 b4 b5 b6 hlX hlX2
        refine (rtexts_is ff tt true A9 (es ++ fs) (n + n') c9 HS.out (fun h => HOP.out (by first | exact h | cases h)) (fun h => HSH.out (by first | exact h | cases h)) (by rw [List.length_append, HN.out, HN'.out]) (by omega) HLL.out wE (rdk_own' HO.out)).mono ?_
        rintro e wF ⟨⟨rK, rlo, rhi, rf, rt, ro, rno⟩, hin, hrl, A7, n7, c7, rfl, hl7, hc7, ho7, hb7⟩
        dsimp only at hrl hl7 ho7
        have HIN := Lib.hid hin
        clear hin
        have hY3 := Blk.below HY.out hb7 HY.out.lt
        have hB3 := below_next BB.out (Nat.le_refl _) hb7
        obtain ⟨u0, u1, u2, u3, u4, u5, u6, q0, q1, q2, q3, q4, q5, q6⟩ := blk7 hY3
        have hlY := hY3.lt
        have HL7 := Lib.hid hl7
        have HC7 := Lib.hid hc7
        have hs7 : w.heap.size + 2 < wE.heap.size := HY.out.lt
        have HO7 := Lib.hid ho7
        have HB3 := Lib.hid hB3
        clear hb7 hl7 hc7 ho7 hB3 hY3 HX HX2 HO
        go_wp2_with fail
        refine bodyPost_ret (v := spF rK rlo rhi rf rt ro A7 n7 c7) (by simp [results, Try.results50, go_sem, u0, u1, u2, u3, u4, u5, u6]) rfl ?_
        exact ⟨⟨rK, rlo, rhi, rf, rt, ro, rno⟩, HIN.out, by show rno.length ≤ n + n'; have := hrl; omega, A7, n7, c7, rfl, HL7.out, HC7.out, (OwnK.put7 HO7.out (by omega) _ _ _ _ _ _ _).less (by omega), below_put7 HB3.out (by omega) _ _ _ _ _ _ _⟩
      | false =>
        have HTT : Hid (t' = tt) := by show _ = _; rw [← HT.out]; rfl
        go_wp2_with fail
        rw [HFF.out, HTT.out]
        clear a0 a1 a2 a3 a4 a5 a6 b0 b1 b2 b3 b4 b5 b6 hlX hlX2
        refine (rtexts_is ff tt false A9 (es ++ fs) (n + n') c9 HS.out (fun h => HOP.out (by first | exact h | cases h)) (fun h => HSH.out (by first | exact h | cases h)) (by rw [List.length_append, HN.out, HN'.out]) (by omega) HLL.out wE (rdk_own' HO.out)).mono ?_
        rintro e wF ⟨⟨rK, rlo, rhi, rf, rt, ro, rno⟩, hin, hrl, A7, n7, c7, rfl, hl7, hc7, ho7, hb7⟩
        dsimp only at hrl hl7 ho7
        have HIN := Lib.hid hin
        clear hin
        have hY3 := Blk.below HY.out hb7 HY.out.lt
        have hB3 := below_next BB.out (Nat.le_refl _) hb7
        obtain ⟨u0, u1, u2, u3, u4, u5, u6, q0, q1, q2, q3, q4, q5, q6⟩ := blk7 hY3
        have hlY := hY3.lt
        have HL7 := Lib.hid hl7
        have HC7 := Lib.hid hc7
        have hs7 : w.heap.size + 2 < wE.heap.size := HY.out.lt
        have HO7 := Lib.hid ho7
        have HB3 := Lib.hid hB3
        clear hb7 hl7 hc7 ho7 hB3 hY3 HX HX2 HO
        go_wp2_with fail
        refine bodyPost_ret (v := spF rK rlo rhi rf rt ro A7 n7 c7) (by simp [results, Try.results50, go_sem, u0, u1, u2, u3, u4, u5, u6]) rfl ?_
        exact ⟨⟨rK, rlo, rhi, rf, rt, ro, rno⟩, HIN.out, by show rno.length ≤ n + n'; have := hrl; omega, A7, n7, c7, rfl, HL7.out, HC7.out, (OwnK.put7 HO7.out (by omega) _ _ _ _ _ _ _).less (by omega), below_put7 HB3.out (by omega) _ _ _ _ _ _ _⟩
    | false =>
      cases o' with
      | true =>
        have HTT : Hid (t = tt) := by show _ = _; rw [← HT.out]; rfl
        go_wp2_with fail
        rw [HFF.out, HTT.out]
        clear a0 a1 a2 a3 a4 a5 a6 b0 b1 b2 b3 b4 b5 b6 hlX hlX2
        refine (rtexts_is ff tt false A9 (es ++ fs) (n + n') c9 HS.out (fun h => HOP.out (by first | exact h | cases h)) (fun h => HSH.out (by first | exact h | cases h)) (by rw [List.length_append, HN.out, HN'.out]) (by omega) HLL.out wE (rdk_own' HO.out)).mono ?_
        rintro e wF ⟨⟨rK, rlo, rhi, rf, rt, ro, rno⟩, hin, hrl, A7, n7, c7, rfl, hl7, hc7, ho7, hb7⟩
        dsimp only at hrl hl7 ho7
        have HIN := Lib.hid hin
        clear hin
        have hY3 := Blk.below HY.out hb7 HY.out.lt
        have hB3 := below_next BB.out (Nat.le_refl _) hb7
        obtain ⟨u0, u1, u2, u3, u4, u5, u6, q0, q1, q2, q3, q4, q5, q6⟩ := blk7 hY3
        have hlY := hY3.lt
        have HL7 := Lib.hid hl7
        have HC7 := Lib.hid hc7
        have hs7 : w.heap.size + 2 < wE.heap.size := HY.out.lt
        have HO7 := Lib.hid ho7
        have HB3 := Lib.hid hB3
        clear hb7 hl7 hc7 ho7 hB3 hY3 HX HX2 HO
        go_wp2_with fail
        refine bodyPost_ret (v := spF rK rlo rhi rf rt ro A7 n7 c7) (by simp [results, Try.results50, go_sem, u0, u1, u2, u3, u4, u5, u6]) rfl ?_
        exact ⟨⟨rK, rlo, rhi, rf, rt, ro, rno⟩, HIN.out, by show rno.length ≤ n + n'; have := hrl; omega, A7, n7, c7, rfl, HL7.out, HC7.out, (OwnK.put7 HO7.out (by omega) _ _ _ _ _ _ _).less (by omega), below_put7 HB3.out (by omega) _ _ _ _ _ _ _⟩
      | false =>
        obtain ⟨z2, hz2⟩ : ∃ z, Vals.cmpT t' t = z := ⟨_, rfl⟩
        have HZ2 := Lib.hid hz2
        clear hz2
        go_wp2_with fail
        refine (textG_at t' t hlt' hltt wE).mono ?_
        rintro e wF ⟨rfl, hg⟩
        rw [HZ2.out]
        have hb := hg.below
        clear hg
        clear a0 a1 a2 a3 a4 a5 a6 b0 b1 b2 b3 b4 b5 b6 hlX hlX2
        replace HX := Lib.hid (Blk.below HX.out hb HX.out.lt)
        replace HX2 := Lib.hid (Blk.below HX2.out hb HX2.out.lt)
        replace HY := Lib.hid (Blk.below HY.out hb HY.out.lt)
        replace BB := Lib.hid (below_next BB.out (Nat.le_refl _) hb)
        replace HO := Lib.hid (OwnK.below HO.out hb)
        clear hb
        obtain ⟨a0, a1, a2, a3, a4, a5, a6, _⟩ := blk7 HX.out
        obtain ⟨b0, b1, b2, b3, b4, b5, b6, _⟩ := blk7 HX2.out
        have hlX := HX.out.lt
        have hlX2 := HX2.out.lt
        cases hl2 : bytesLess t' t with
        | true =>
          have u6 : decide (z2 < 0) = true := decide_eq_true (by rw [← HZ2.out]; exact (cmpT_neg_iff t' t).2 hl2)
          have HTT : Hid (t' = tt) := by show _ = _; rw [← HT.out]; show t' = minT t t'; unfold minT; rw [if_pos hl2]
          clear hl2
          go_wp2_with fail
          rw [HFF.out, HTT.out]
          clear a0 a1 a2 a3 a4 a5 a6 b0 b1 b2 b3 b4 b5 b6 hlX hlX2
          refine (rtexts_is ff tt false A9 (es ++ fs) (n + n') c9 HS.out (fun h => HOP.out (by first | exact h | cases h)) (fun h => HSH.out (by first | exact h | cases h)) (by rw [List.length_append, HN.out, HN'.out]) (by omega) HLL.out wF (rdk_own' HO.out)).mono ?_
          rintro e wG ⟨⟨rK, rlo, rhi, rf, rt, ro, rno⟩, hin, hrl, A7, n7, c7, rfl, hl7, hc7, ho7, hb7⟩
          dsimp only at hrl hl7 ho7
          have HIN := Lib.hid hin
          clear hin
          have hY3 := Blk.below HY.out hb7 HY.out.lt
          have hB3 := below_next BB.out (Nat.le_refl _) hb7
          obtain ⟨u0, u1, u2, u3, u4, u5, u6, q0, q1, q2, q3, q4, q5, q6⟩ := blk7 hY3
          have hlY := hY3.lt
          have HL7 := Lib.hid hl7
          have HC7 := Lib.hid hc7
          have hs7 : w.heap.size + 2 < wF.heap.size := HY.out.lt
          have HO7 := Lib.hid ho7
          have HB3 := Lib.hid hB3
          clear hb7 hl7 hc7 ho7 hB3 hY3 HX HX2 HO
          go_wp2_with fail
          refine bodyPost_ret (v := spF rK rlo rhi rf rt ro A7 n7 c7) (by simp [results, Try.results50, go_sem, u0, u1, u2, u3, u4, u5, u6]) rfl ?_
          exact ⟨⟨rK, rlo, rhi, rf, rt, ro, rno⟩, HIN.out, by show rno.length ≤ n + n'; have := hrl; omega, A7, n7, c7, rfl, HL7.out, HC7.out, (OwnK.put7 HO7.out (by omega) _ _ _ _ _ _ _).less (by omega), below_put7 HB3.out (by omega) _ _ _ _ _ _ _⟩
        | false =>
          have u6 : decide (z2 < 0) = false := decide_eq_false (by rw [← HZ2.out]; intro h; have := (cmpT_neg_iff t' t).1 h; rw [hl2] at this; cases this)
          have HTT : Hid (t = tt) := by show _ = _; rw [← HT.out]; show t = minT t t'; unfold minT; rw [if_neg (by rw [hl2]; simp)]
          clear hl2
          go_wp2_with fail
          rw [HFF.out, HTT.out]
          clear a0 a1 a2 a3 a4 a5 a6 b0 b1 b2 b3 b4 b5 b6 hlX hlX2
          refine (rtexts_is ff tt false A9 (es ++ fs) (n + n') c9 HS.out (fun h => HOP.out (by first | exact h | cases h)) (fun h => HSH.out (by first | exact h | cases h)) (by rw [List.length_append, HN.out, HN'.out]) (by omega) HLL.out wF (rdk_own' HO.out)).mono ?_
          rintro e wG ⟨⟨rK, rlo, rhi, rf, rt, ro, rno⟩, hin, hrl, A7, n7, c7, rfl, hl7, hc7, ho7, hb7⟩
          dsimp only at hrl hl7 ho7
          have HIN := Lib.hid hin
          clear hin
          have hY3 := Blk.below HY.out hb7 HY.out.lt
          have hB3 := below_next BB.out (Nat.le_refl _) hb7
          obtain ⟨u0, u1, u2, u3, u4, u5, u6, q0, q1, q2, q3, q4, q5, q6⟩ := blk7 hY3
          have hlY := hY3.lt
          have HL7 := Lib.hid hl7
          have HC7 := Lib.hid hc7
          have hs7 : w.heap.size + 2 < wF.heap.size := HY.out.lt
          have HO7 := Lib.hid ho7
          have HB3 := Lib.hid hB3
          clear hb7 hl7 hc7 ho7 hB3 hY3 HX HX2 HO
          go_wp2_with fail
          refine bodyPost_ret (v := spF rK rlo rhi rf rt ro A7 n7 c7) (by simp [results, Try.results50, go_sem, u0, u1, u2, u3, u4, u5, u6]) rfl ?_
          exact ⟨⟨rK, rlo, rhi, rf, rt, ro, rno⟩, HIN.out, by show rno.length ≤ n + n'; have := hrl; omega, A7, n7, c7, rfl, HL7.out, HC7.out, (OwnK.put7 HO7.out (by omega) _ _ _ _ _ _ _).less (by omega), below_put7 HB3.out (by omega) _ _ _ _ _ _ _⟩
  | false =>
    have u5 : decide (z1 < 0) = false := decide_eq_false (by rw [← HZ1.out]; intro h; have := (cmpT_neg_iff f f').1 h; rw [hlt] at this; cases this)
    have HFF : Hid (f = ff) := by show _ = _; rw [← HF.out]; unfold maxT; rw [if_neg (by rw [hlt]; simp)]
    clear hlt
    cases o with
    | true =>
      cases o' with
      | true =>
        have HTT : Hid (t' = tt) := by show _ = _; rw [← HT.out]; rfl
        go_wp2_with fail
        rw [HFF.out, HTT.out]
        clear a0 a1 a2 a3 a4 a5 a6 b0 b1 b2 b3 b4 b5 b6 hlX hlX2
        refine (rtexts_is ff tt true A9 (es ++ fs) (n + n') c9 HS.out (fun h => HOP.out (by first | exact h | cases h)) (fun h => HSH.out (by first | exact h | cases h)) (by rw [List.length_append, HN.out, HN'.out]) (by omega) HLL.out wE (rdk_own' HO.out)).mono ?_
        rintro e wF ⟨⟨rK, rlo, rhi, rf, rt, ro, rno⟩, hin, hrl, A7, n7, c7, rfl, hl7, hc7, ho7, hb7⟩
        dsimp only at hrl hl7 ho7
        have HIN := Lib.hid hin
        clear hin
        have hY3 := Blk.below HY.out hb7 HY.out.lt
        have hB3 := below_next BB.out (Nat.le_refl _) hb7
        obtain ⟨u0, u1, u2, u3, u4, u5, u6, q0, q1, q2, q3, q4, q5, q6⟩ := blk7 hY3
        have hlY := hY3.lt
        have HL7 := Lib.hid hl7
        have HC7 := Lib.hid hc7
        have hs7 : w.heap.size + 2 < wE.heap.size := HY.out.lt
        have HO7 := Lib.hid ho7
        have HB3 := Lib.hid hB3
        clear hb7 hl7 hc7 ho7 hB3 hY3 HX HX2 HO
        go_wp2_with fail
        refine bodyPost_ret (v := spF rK rlo rhi rf rt ro A7 n7 c7) (by simp [results, Try.results50, go_sem, u0, u1, u2, u3, u4, u5, u6]) rfl ?_
        exact ⟨⟨rK, rlo, rhi, rf, rt, ro, rno⟩, HIN.out, by show rno.length ≤ n + n'; have := hrl; omega, A7, n7, c7, rfl, HL7.out, HC7.out, (OwnK.put7 HO7.out (by omega) _ _ _ _ _ _ _).less (by omega), below_put7 HB3.out (by omega) _ _ _ _ _ _ _⟩
      | false =>
        have HTT : Hid (t' = tt) := by show _ = _; rw [← HT.out]; rfl
        go_wp2_with fail
        rw [HFF.out, HTT.out]
        clear a0 a1 a2 a3 a4 a5 a6 b0 b1 b2 b3 b4 b5 b6 hlX hlX2
        refine (rtexts_is ff tt false A9 (es ++ fs) (n + n') c9 HS.out (fun h => HOP.out (by first | exact h | cases h)) (fun h => HSH.out (by first | exact h | cases h)) (by rw [List.length_append, HN.out, HN'.out]) (by omega) HLL.out wE (rdk_own' HO.out)).mono ?_
        rintro e wF ⟨⟨rK, rlo, rhi, rf, rt, ro, rno⟩, hin, hrl, A7, n7, c7, rfl, hl7, hc7, ho7, hb7⟩
        dsimp only at hrl hl7 ho7
        have HIN := Lib.hid hin
        clear hin
        have hY3 := Blk.below HY.out hb7 HY.out.lt
        have hB3 := below_next BB.out (Nat.le_refl _) hb7
        obtain ⟨u0, u1, u2, u3, u4, u5, u6, q0, q1, q2, q3, q4, q5, q6⟩ := blk7 hY3
        have hlY := hY3.lt
        have HL7 := Lib.hid hl7
        have HC7 := Lib.hid hc7
        have hs7 : w.heap.size + 2 < wE.heap.size := HY.out.lt
        have HO7 := Lib.hid ho7
        have HB3 := Lib.hid hB3
        clear hb7 hl7 hc7 ho7 hB3 hY3 HX HX2 HO
        go_wp2_with fail
        refine bodyPost_ret (v := spF rK rlo rhi rf rt ro A7 n7 c7) (by simp [results, Try.results50, go_sem, u0, u1, u2, u3, u4, u5, u6]) rfl ?_
        exact ⟨⟨rK, rlo, rhi, rf, rt, ro, rno⟩, HIN.out, by show rno.length ≤ n + n'; have := hrl; omega, A7, n7, c7, rfl, HL7.out, HC7.out, (OwnK.put7 HO7.out (by omega) _ _ _ _ _ _ _).less (by omega), below_put7 HB3.out (by omega) _ _ _ _ _ _ _⟩
    | false =>
      cases o' with
      | true =>
        have HTT : Hid (t = tt) := by show _ = _; rw [← HT.out]; rfl
        go_wp2_with fail
        rw [HFF.out, HTT.out]
        clear a0 a1 a2 a3 a4 a5 a6 b0 b1 b2 b3 b4 b5 b6 hlX hlX2
        refine (rtexts_is ff tt false A9 (es ++ fs) (n + n') c9 HS.out (fun h => HOP.out (by first | exact h | cases h)) (fun h => HSH.out (by first | exact h | cases h)) (by rw [List.length_append, HN.out, HN'.out]) (by omega) HLL.out wE (rdk_own' HO.out)).mono ?_
        rintro e wF ⟨⟨rK, rlo, rhi, rf, rt, ro, rno⟩, hin, hrl, A7, n7, c7, rfl, hl7, hc7, ho7, hb7⟩
        dsimp only at hrl hl7 ho7
        have HIN := Lib.hid hin
        clear hin
        have hY3 := Blk.below HY.out hb7 HY.out.lt
        have hB3 := below_next BB.out (Nat.le_refl _) hb7
        obtain ⟨u0, u1, u2, u3, u4, u5, u6, q0, q1, q2, q3, q4, q5, q6⟩ := blk7 hY3
        have hlY := hY3.lt
        have HL7 := Lib.hid hl7
        have HC7 := Lib.hid hc7
        have hs7 : w.heap.size + 2 < wE.heap.size := HY.out.lt
        have HO7 := Lib.hid ho7
        have HB3 := Lib.hid hB3
        clear hb7 hl7 hc7 ho7 hB3 hY3 HX HX2 HO
        go_wp2_with fail
        refine bodyPost_ret (v := spF rK rlo rhi rf rt ro A7 n7 c7) (by simp [results, Try.results50, go_sem, u0, u1, u2, u3, u4, u5, u6]) rfl ?_
        exact ⟨⟨rK, rlo, rhi, rf, rt, ro, rno⟩, HIN.out, by show rno.length ≤ n + n'; have := hrl; omega, A7, n7, c7, rfl, HL7.out, HC7.out, (OwnK.put7 HO7.out (by omega) _ _ _ _ _ _ _).less (by omega), below_put7 HB3.out (by omega) _ _ _ _ _ _ _⟩
      | false =>
        obtain ⟨z2, hz2⟩ : ∃ z, Vals.cmpT t' t = z := ⟨_, rfl⟩
        have HZ2 := Lib.hid hz2
        clear hz2
        go_wp2_with fail
        refine (textG_at t' t hlt' hltt wE).mono ?_
        rintro e wF ⟨rfl, hg⟩
        rw [HZ2.out]
        have hb := hg.below
        clear hg
        clear a0 a1 a2 a3 a4 a5 a6 b0 b1 b2 b3 b4 b5 b6 hlX hlX2
        replace HX := Lib.hid (Blk.below HX.out hb HX.out.lt)
        replace HX2 := Lib.hid (Blk.below HX2.out hb HX2.out.lt)
        replace HY := Lib.hid (Blk.below HY.out hb HY.out.lt)
        replace BB := Lib.hid (below_next BB.out (Nat.le_refl _) hb)
        replace HO := Lib.hid (OwnK.below HO.out hb)
        clear hb
        obtain ⟨a0, a1, a2, a3, a4, a5, a6, _⟩ := blk7 HX.out
        obtain ⟨b0, b1, b2, b3, b4, b5, b6, _⟩ := blk7 HX2.out
        have hlX := HX.out.lt
        have hlX2 := HX2.out.lt
        cases hl2 : bytesLess t' t with
        | true =>
          have u6 : decide (z2 < 0) = true := decide_eq_true (by rw [← HZ2.out]; exact (cmpT_neg_iff t' t).2 hl2)
          have HTT : Hid (t' = tt) := by show _ = _; rw [← HT.out]; show t' = minT t t'; unfold minT; rw [if_pos hl2]
          clear hl2
          go_wp2_with fail
          rw [HFF.out, HTT.out]
          clear a0 a1 a2 a3 a4 a5 a6 b0 b1 b2 b3 b4 b5 b6 hlX hlX2
          refine (rtexts_is ff tt false A9 (es ++ fs) (n + n') c9 HS.out (fun h => HOP.out (by first | exact h | cases h)) (fun h => HSH.out (by first | exact h | cases h)) (by rw [List.length_append, HN.out, HN'.out]) (by omega) HLL.out wF (rdk_own' HO.out)).mono ?_
          rintro e wG ⟨⟨rK, rlo, rhi, rf, rt, ro, rno⟩, hin, hrl, A7, n7, c7, rfl, hl7, hc7, ho7, hb7⟩
          dsimp only at hrl hl7 ho7
          have HIN := Lib.hid hin
          clear hin
          have hY3 := Blk.below HY.out hb7 HY.out.lt
          have hB3 := below_next BB.out (Nat.le_refl _) hb7
          obtain ⟨u0, u1, u2, u3, u4, u5, u6, q0, q1, q2, q3, q4, q5, q6⟩ := blk7 hY3
          have hlY := hY3.lt
          have HL7 := Lib.hid hl7
          have HC7 := Lib.hid hc7
          have hs7 : w.heap.size + 2 < wF.heap.size := HY.out.lt
          have HO7 := Lib.hid ho7
          have HB3 := Lib.hid hB3
          clear hb7 hl7 hc7 ho7 hB3 hY3 HX HX2 HO
          go_wp2_with fail
          refine bodyPost_ret (v := spF rK rlo rhi rf rt ro A7 n7 c7) (by simp [results, Try.results50, go_sem, u0, u1, u2, u3, u4, u5, u6]) rfl ?_
          exact ⟨⟨rK, rlo, rhi, rf, rt, ro, rno⟩, HIN.out, by show rno.length ≤ n + n'; have := hrl; omega, A7, n7, c7, rfl, HL7.out, HC7.out, (OwnK.put7 HO7.out (by omega) _ _ _ _ _ _ _).less (by omega), below_put7 HB3.out (by omega) _ _ _ _ _ _ _⟩
        | false =>
          have u6 : decide (z2 < 0) = false := decide_eq_false (by rw [← HZ2.out]; intro h; have := (cmpT_neg_iff t' t).1 h; rw [hl2] at this; cases this)
          have HTT : Hid (t = tt) := by show _ = _; rw [← HT.out]; show t = minT t t'; unfold minT; rw [if_neg (by rw [hl2]; simp)]
          clear hl2
          go_wp2_with fail
          rw [HFF.out, HTT.out]
          clear a0 a1 a2 a3 a4 a5 a6 b0 b1 b2 b3 b4 b5 b6 hlX hlX2
          refine (rtexts_is ff tt false A9 (es ++ fs) (n + n') c9 HS.out (fun h => HOP.out (by first | exact h | cases h)) (fun h => HSH.out (by first | exact h | cases h)) (by rw [List.length_append, HN.out, HN'.out]) (by omega) HLL.out wF (rdk_own' HO.out)).mono ?_
          rintro e wG ⟨⟨rK, rlo, rhi, rf, rt, ro, rno⟩, hin, hrl, A7, n7, c7, rfl, hl7, hc7, ho7, hb7⟩
          dsimp only at hrl hl7 ho7
          have HIN := Lib.hid hin
          clear hin
          have hY3 := Blk.below HY.out hb7 HY.out.lt
          have hB3 := below_next BB.out (Nat.le_refl _) hb7
          obtain ⟨u0, u1, u2, u3, u4, u5, u6, q0, q1, q2, q3, q4, q5, q6⟩ := blk7 hY3
          have hlY := hY3.lt
          have HL7 := Lib.hid hl7
          have HC7 := Lib.hid hc7
          have hs7 : w.heap.size + 2 < wF.heap.size := HY.out.lt
          have HO7 := Lib.hid ho7
          have HB3 := Lib.hid hB3
          clear hb7 hl7 hc7 ho7 hB3 hY3 HX HX2 HO
          go_wp2_with fail
          refine bodyPost_ret (v := spF rK rlo rhi rf rt ro A7 n7 c7) (by simp [results, Try.results50, go_sem, u0, u1, u2, u3, u4, u5, u6]) rfl ?_
          exact ⟨⟨rK, rlo, rhi, rf, rt, ro, rno⟩, HIN.out, by show rno.length ≤ n + n'; have := hrl; omega, A7, n7, c7, rfl, HL7.out, HC7.out, (OwnK.put7 HO7.out (by omega) _ _ _ _ _ _ _).less (by omega), below_put7 HB3.out (by omega) _ _ _ _ _ _ _⟩
end Go.Proofs.Ytckabmlilbkmbaa
namespace Go.Proofs.Ytckabmlilbkmbaa
open Go.RowKit Go.Sort Spans Op
set_option maxRecDepth 100000 in
set_option maxHeartbeats 400000 in
theorem rmeet_3 (lo hi : Int) (A : Option Addr) (n c : Nat) (lo' hi' : Int) (A' : Option Addr) (n' c' : Nat) (w : World) (es fs : List Val) (hlow : lowest 3 ≤ max lo lo') (hhigh : min hi hi' ≤ highest 3) (hl : ∀ v ∈ es ++ fs, v.k = 3 ∧ v.t = []) (hn : es.length = n) (hm : n ≤ 500) (hn' : fs.length = n') (hm' : n' ≤ 500) (hr : RdW w A es) (hr' : RdW w A' fs) :
    Calls Try.prog 50 #[spF 3 lo hi [] [] false A n c, spF 3 lo' hi' [] [] false A' n' c'] w (GivesS w (IsInts 3 (max lo lo') (min hi hi') (es ++ fs)) (n + n')) := by
  have HN := Lib.hid hn
  have HN' := Lib.hid hn'
  have R1 := Lib.hid hr
  have R2 := Lib.hid hr'
  have HLL := Lib.hid hl
  clear hn hn' hr hr' hl
  have hgr := gr3 w (.cells #[.int .i64 3, .int .i64 lo, .int .i64 hi, .string ⟨#[]⟩, .string ⟨#[]⟩, .bool false, .slice A n c] 58) (.cells #[.int .i64 3, .int .i64 lo', .int .i64 hi', .string ⟨#[]⟩, .string ⟨#[]⟩, .bool false, .slice A' n' c'] 58) (.cells #[.int .i64 0, .int .i64 0, .int .i64 0, .string ⟨#[]⟩, .string ⟨#[]⟩, .bool false, .slice none 0 0] 58)
  have hX := ((Blk.new w 58 #[.int .i64 3, .int .i64 lo, .int .i64 hi, .string ⟨#[]⟩, .string ⟨#[]⟩, .bool false, .slice A n c]).alloc (.cells #[.int .i64 3, .int .i64 lo', .int .i64 hi', .string ⟨#[]⟩, .string ⟨#[]⟩, .bool false, .slice A' n' c'] 58)).alloc (.cells #[.int .i64 0, .int .i64 0, .int .i64 0, .string ⟨#[]⟩, .string ⟨#[]⟩, .bool false, .slice none 0 0] 58)
  have hX2 := (Blk.new (w.alloc (.cells #[.int .i64 3, .int .i64 lo, .int .i64 hi, .string ⟨#[]⟩, .string ⟨#[]⟩, .bool false, .slice A n c] 58)) 58 #[.int .i64 3, .int .i64 lo', .int .i64 hi', .string ⟨#[]⟩, .string ⟨#[]⟩, .bool false, .slice A' n' c']).alloc (.cells #[.int .i64 0, .int .i64 0, .int .i64 0, .string ⟨#[]⟩, .string ⟨#[]⟩, .bool false, .slice none 0 0] 58)
  have hY := Blk.new ((w.alloc (.cells #[.int .i64 3, .int .i64 lo, .int .i64 hi, .string ⟨#[]⟩, .string ⟨#[]⟩, .bool false, .slice A n c] 58)).alloc (.cells #[.int .i64 3, .int .i64 lo', .int .i64 hi', .string ⟨#[]⟩, .string ⟨#[]⟩, .bool false, .slice A' n' c'] 58)) 58 #[.int .i64 0, .int .i64 0, .int .i64 0, .string ⟨#[]⟩, .string ⟨#[]⟩, .bool false, .slice none 0 0]
  rw [show (w.alloc (.cells #[.int .i64 3, .int .i64 lo, .int .i64 hi, .string ⟨#[]⟩, .string ⟨#[]⟩, .bool false, .slice A n c] 58)).heap.size = w.heap.size + 1 by simp] at hX2
  rw [show ((w.alloc (.cells #[.int .i64 3, .int .i64 lo, .int .i64 hi, .string ⟨#[]⟩, .string ⟨#[]⟩, .bool false, .slice A n c] 58)).alloc (.cells #[.int .i64 3, .int .i64 lo', .int .i64 hi', .string ⟨#[]⟩, .string ⟨#[]⟩, .bool false, .slice A' n' c'] 58)).heap.size = w.heap.size + 2 by simp] at hY
  have BB := Lib.hid hgr.below
  have HX := Lib.hid hX
  have HX2 := Lib.hid hX2
  have HY := Lib.hid hY
  clear hgr hX hX2 hY
  go_enter Try.func50, Try.ntmps50
  go_wp2_with fail
  generalize (((w.alloc (.cells #[.int .i64 3, .int .i64 lo, .int .i64 hi, .string ⟨#[]⟩, .string ⟨#[]⟩, .bool false, .slice A n c] 58)).alloc (.cells #[.int .i64 3, .int .i64 lo', .int .i64 hi', .string ⟨#[]⟩, .string ⟨#[]⟩, .bool false, .slice A' n' c'] 58)).alloc (.cells #[.int .i64 0, .int .i64 0, .int .i64 0, .string ⟨#[]⟩, .string ⟨#[]⟩, .bool false, .slice none 0 0] 58)) = w0 at *
  have hS0 : Blk w0.drew w.heap.size 58 #[.int .i64 3, .int .i64 lo, .int .i64 hi, .string ⟨#[]⟩, .string ⟨#[]⟩, .bool false, .slice A n c] ∧ Blk w0.drew (w.heap.size + 1) 58 #[.int .i64 3, .int .i64 lo', .int .i64 hi', .string ⟨#[]⟩, .string ⟨#[]⟩, .bool false, .slice A' n' c'] := ⟨HX.out, HX2.out⟩
  refine wp_region_held_drew (S := fun w' => Blk w' w.heap.size 58 #[.int .i64 3, .int .i64 lo, .int .i64 hi, .string ⟨#[]⟩, .string ⟨#[]⟩, .bool false, .slice A n c] ∧ Blk w' (w.heap.size + 1) 58 #[.int .i64 3, .int .i64 lo', .int .i64 hi', .string ⟨#[]⟩, .string ⟨#[]⟩, .bool false, .slice A' n' c']) (by kernel_rfl) hS0 (fun _ => ?_)
  refine wpAnyH_yes (i := 1) (d := 28) (v := ?_) rfl rfl (by kernel_rfl) (by kernel_rfl) (by kernel_rfl) (fun _ _ _ h => h) (by rfl) ?_ hS0 ?_
  rotate_left
  · intro w' hSw; obtain ⟨r0, r1, r2, r3, r4, r5, r6, _⟩ := blk7 hSw.1; obtain ⟨m0, m1, m2, m3, m4, m5, m6, _⟩ := blk7 hSw.2; go_simp <;> with_reducible rfl
  simp only [Act.put, List.setIfInBounds_toArray, List.set_cons_zero, List.set_cons_succ]
  refine wpAnyH_yes (i := 2) (d := 29) (v := ?_) rfl rfl (by kernel_rfl) (by kernel_rfl) (by kernel_rfl) (fun _ _ _ h => h) (by rfl) ?_ hS0 ?_
  rotate_left
  · intro w' hSw; obtain ⟨r0, r1, r2, r3, r4, r5, r6, _⟩ := blk7 hSw.1; obtain ⟨m0, m1, m2, m3, m4, m5, m6, _⟩ := blk7 hSw.2; go_simp <;> with_reducible rfl
  simp only [Act.put, List.setIfInBounds_toArray, List.set_cons_zero, List.set_cons_succ]
  refine wpAnyH_yes (i := 4) (d := 31) (v := ?_) rfl rfl (by kernel_rfl) (by kernel_rfl) (by kernel_rfl) (fun _ _ _ h => h) (by rfl) ?_ hS0 ?_
  rotate_left
  · intro w' hSw; obtain ⟨r0, r1, r2, r3, r4, r5, r6, _⟩ := blk7 hSw.1; obtain ⟨m0, m1, m2, m3, m4, m5, m6, _⟩ := blk7 hSw.2; go_simp <;> with_reducible rfl
  simp only [Act.put, List.setIfInBounds_toArray, List.set_cons_zero, List.set_cons_succ]
  refine wpAnyH_yes (i := 5) (d := 32) (v := ?_) rfl rfl (by kernel_rfl) (by kernel_rfl) (by kernel_rfl) (fun _ _ _ h => h) (by rfl) ?_ hS0 ?_
  rotate_left
  · intro w' hSw; obtain ⟨r0, r1, r2, r3, r4, r5, r6, _⟩ := blk7 hSw.1; obtain ⟨m0, m1, m2, m3, m4, m5, m6, _⟩ := blk7 hSw.2; go_simp <;> with_reducible rfl
  simp only [Act.put, List.setIfInBounds_toArray, List.set_cons_zero, List.set_cons_succ]
  have HX' := Lib.hid (Blk.below HX.out (show Below w0.heap.size w0 w0.drew from (Below.refl _ _).drew) HX.out.lt)
  have HX2' := Lib.hid (Blk.below HX2.out (show Below w0.heap.size w0 w0.drew from (Below.refl _ _).drew) HX2.out.lt)
  have HY' := Lib.hid (Blk.below HY.out (show Below w0.heap.size w0 w0.drew from (Below.refl _ _).drew) HY.out.lt)
  have BB' := Lib.hid BB.out.drew
  clear hS0 HX HX2 HY BB
  have HX := HX'
  clear HX'
  have HX2 := HX2'
  clear HX2'
  have HY := HY'
  clear HY'
  have BB := BB'
  clear BB'
  generalize w0.drew = wA at *
  refine wpAnyH_one (i := 0) (by kernel_rfl) rfl (by rfl) (fun K hK => ?_)
  go_simp
  have hO0 : OwnW (wA.alloc (.cells #[] 45)) wA.heap.size (.slice (some ⟨wA.heap.size, 0, none⟩) 0 0) [] := OwnK.empty wA wA.heap.size (Nat.le_refl _)
  have hb : Below wA.heap.size wA (wA.alloc (.cells #[] 45)) := (gr1 wA _).below
  have hs6 := hb.size
  have hB7 : w.heap.size ≤ wA.heap.size := BB.out.size
  have hlX := HX.out.lt
  have hlX2 := HX2.out.lt
  have hlY := HY.out.lt
  replace HX := Lib.hid (Blk.below HX.out hb HX.out.lt)
  replace HX2 := Lib.hid (Blk.below HX2.out hb HX2.out.lt)
  replace HY := Lib.hid (Blk.below HY.out hb HY.out.lt)
  replace BB := Lib.hid (below_next BB.out (Nat.le_refl _) hb)
  clear hb
  generalize (wA.alloc (.cells #[] 45)) = wB at *
  refine hK.out _ _ ⟨HX.out, HX2.out⟩ ?_
  clear hK
  generalize wA.heap.size = B7 at *
  have HN0 : Hid ((es : List Val).length = n) := HN
  refine wpAnyH_one (i := 3) (by kernel_rfl) rfl (by rfl) (fun K hK => ?_)
  refine op_append_k layV (.tmp 27) (.tmp 29) 56 underV (by rfl) B7 _ ([]) (by rfl) hO0 A (es) (n) (c) (by rfl) (RdK.below R1.out BB.out) HN.out (by rw [maxLen_num]; simp; omega) (by simp only [layV]; simp; omega) hs6 ?_
  intro v3 wC o7 hbx
  have hb7 : Below B7 wB wC := hbx wB (Below.refl _ _)
  clear hbx
  replace HX := Lib.hid (Blk.below HX.out hb7 (by omega))
  replace HX2 := Lib.hid (Blk.below HX2.out hb7 (by omega))
  replace HY := Lib.hid (Blk.below HY.out hb7 (by omega))
  replace BB := Lib.hid (BB.out.trans (hb7.mono (by omega)))
  replace hs6 := Nat.le_trans hs6 hb7.size
  clear hb7
  rw [List.nil_append] at o7
  obtain ⟨A7, c7, hv7, hc7, _⟩ := OwnK.form o7 HN.out
  subst hv7
  refine hK.out _ _ ⟨HX.out, HX2.out⟩ ?_
  clear hK hO0
  simp only [Act.put, List.setIfInBounds_toArray, List.set_cons_zero, List.set_cons_succ]
  refine wpAnyH_one (i := 6) (by kernel_rfl) rfl (by rfl) (fun K hK => ?_)
  refine op_append_k layV (.tmp 30) (.tmp 32) 56 underV (by rfl) B7 _ (es) (by rfl) o7 A' (fs) (n') (c') (by rfl) (RdK.below R2.out BB.out) HN'.out (by rw [maxLen_num]; rw [HN.out]; omega) (by simp only [layV]; rw [HN.out]; omega) hs6 ?_
  intro v6 wD o9 hbx
  have hb7 : Below B7 wC wD := hbx wC (Below.refl _ _)
  clear hbx
  replace HX := Lib.hid (Blk.below HX.out hb7 (by omega))
  replace HX2 := Lib.hid (Blk.below HX2.out hb7 (by omega))
  replace HY := Lib.hid (Blk.below HY.out hb7 (by omega))
  replace BB := Lib.hid (BB.out.trans (hb7.mono (by omega)))
  replace hs6 := Nat.le_trans hs6 hb7.size
  clear hb7
  obtain ⟨A9, c9, hv9, hc9, _⟩ := OwnK.form o9 (n := n + n') (by rw [List.length_append, HN.out, HN'.out])
  subst hv9
  have HO := Lib.hid o9
  clear o9 o7 HN0
  refine hK.out _ _ ⟨HX.out, HX2.out⟩ ?_
  clear hK
  simp only [Act.put, List.setIfInBounds_toArray, List.set_cons_zero, List.set_cons_succ]
  refine wpAnyH_yes (i := 7) (d := 5) (v := ?_) rfl rfl (by kernel_rfl) (by kernel_rfl) (by kernel_rfl) (fun _ _ _ h => h) (by rfl) ?_ ⟨HX.out, HX2.out⟩ ?_
  rotate_left
  · intro w' hSw; obtain ⟨r0, r1, r2, r3, r4, r5, r6, _⟩ := blk7 hSw.1; obtain ⟨m0, m1, m2, m3, m4, m5, m6, _⟩ := blk7 hSw.2; go_simp <;> with_reducible rfl
  simp only [Act.put, List.setIfInBounds_toArray, List.set_cons_zero, List.set_cons_succ]
  refine wpAnyH_done (by kernel_rfl) ?_ _
  clear hs6 hlX hlX2 hlY
  obtain ⟨a0, a1, a2, a3, a4, a5, a6, _⟩ := blk7 HX.out
  obtain ⟨b0, b1, b2, b3, b4, b5, b6, _⟩ := blk7 HX2.out
  have hlX := HX.out.lt
  have hlX2 := HX2.out.lt
  go_wp2_with fail
  clear a0 a1 a2 a3 a4 a5 a6 b0 b1 b2 b3 b4 b5 b6 hlX hlX2
  refine (rints_at 3 (max lo lo') (min hi hi') A9 (es ++ fs) (n + n') c9 (by decide) hlow hhigh (by rw [List.length_append, HN.out, HN'.out]) (by omega) HLL.out wD (rdk_own' HO.out)).mono ?_
  rintro e wE ⟨⟨rK, rlo, rhi, rf, rt, ro, rno⟩, hin, hrl, A7, n7, c7, rfl, hl7, hc7, ho7, hb7⟩
  dsimp only at hrl hl7 ho7
  have HIN := Lib.hid hin
  clear hin
  have hY3 := Blk.below HY.out hb7 HY.out.lt
  have hB3 := below_next BB.out (Nat.le_refl _) hb7
  obtain ⟨u0, u1, u2, u3, u4, u5, u6, q0, q1, q2, q3, q4, q5, q6⟩ := blk7 hY3
  have hlY := hY3.lt
  have HL7 := Lib.hid hl7
  have HC7 := Lib.hid hc7
  have hs7 : w.heap.size + 2 < wD.heap.size := HY.out.lt
  have HO7 := Lib.hid ho7
  have HB3 := Lib.hid hB3
  clear hb7 hl7 hc7 ho7 hB3 hY3 HX HX2 HO
  go_wp2_with fail
  refine bodyPost_ret (v := spF rK rlo rhi rf rt ro A7 n7 c7) (by simp [results, Try.results50, go_sem, u0, u1, u2, u3, u4, u5, u6]) rfl ?_
  exact ⟨⟨rK, rlo, rhi, rf, rt, ro, rno⟩, HIN.out, by show rno.length ≤ n + n'; have := hrl; omega, A7, n7, c7, rfl, HL7.out, HC7.out, (OwnK.put7 HO7.out (by omega) _ _ _ _ _ _ _).less (by omega), below_put7 HB3.out (by omega) _ _ _ _ _ _ _⟩
end Go.Proofs.Ytckabmlilbkmbaa
namespace Go.Proofs.Ytckabmlilbkmbaa
open Go.RowKit Go.Sort Spans Op
theorem rmeet_at (base : Nat) (a b : Sp) (ha : Canon a) (hb : Canon b) (A : Option Addr) (n c : Nat) (A' : Option Addr) (n' c' : Nat) (w : World) (hn : a.no.length = n) (hm : n ≤ 500) (hn' : b.no.length = n') (hm' : n' ≤ 500) (hbase : base ≤ w.heap.size) (hc : n ≤ c) (hc' : n' ≤ c') (ho : OwnW w base (.slice A n c) a.no) (ho' : OwnW w base (.slice A' n' c') b.no) :
    Calls Try.prog 50 #[spF a.kind a.lo a.hi a.frm a.to_ a.opn A n c, spF b.kind b.lo b.hi b.frm b.to_ b.opn A' n' c'] w (fun e w' => ∃ r, IsMeet a b r ∧ r.no.length ≤ a.no.length + b.no.length ∧ GivesB base w r e w') := by
  have hr := rdk_own' ho
  have hr' := rdk_own' ho'
  by_cases h4 : a.kind = 4
  · have e := kind_any ha h4
    subst e
    refine (rmeet_left 0 0 [] [] false A n c b.kind b.lo b.hi b.frm b.to_ b.opn A' n' c' w).mono ?_
    rintro e w' ⟨rfl, hbw⟩
    exact ⟨b, (meet_any hb).2, by omega, A', n', c', rfl, hn', hc', OwnK.below ho' hbw, hbw⟩
  by_cases h4' : b.kind = 4
  · have e := kind_any hb h4'
    subst e
    refine (rmeet_right a.kind a.lo a.hi a.frm a.to_ a.opn A n c 0 0 [] [] false A' n' c' w h4).mono ?_
    rintro e w' ⟨rfl, hbw⟩
    exact ⟨a, (meet_any ha).1, by omega, A, n, c, rfl, hn, hc, OwnK.below ho hbw, hbw⟩
  by_cases hk : a.kind = b.kind
  · rcases ha with rfl | rfl | ha | ha
    · have e : b = none_ := kind_none hb hk.symm
      subst e
      refine (rmeet_none 0 0 [] [] false A n c 0 0 [] [] false A' n' c' w).mono ?_
      rintro e w' ⟨rfl, hbw⟩
      exact ⟨none_, meet_none _ _ (.inl rfl), by simp [none_], none, 0, 0, rfl, rfl, Nat.le_refl _, OwnK.none_ _ _, hbw⟩
    · exact absurd rfl h4
    · have hb' : CanonN b := by
        rcases hb with rfl | rfl | hb | hb
        · exact absurd hk (N_not4 ha).2.2
        · exact absurd hk h4
        · exact hb
        · exact absurd (hk.trans hb.kind) (N_not4 ha).2.1
      obtain ⟨K, lo, hi, f, t, o, no⟩ := a
      obtain ⟨K', lo', hi', f', t', o', no'⟩ := b
      have e1 : f = [] := ha.frm
      have e2 : t = [] := ha.to_
      have e3 : o = false := ha.opn
      have e4 : f' = [] := hb'.frm
      have e5 : t' = [] := hb'.to_
      have e6 : o' = false := hb'.opn
      have e7 : K = K' := hk
      subst e1; subst e2; subst e3; subst e4; subst e5; subst e6; subst e7
      have hlow : lowest K ≤ max lo lo' := Int.le_trans ha.low (Int.le_max_left _ _)
      have hhigh : min hi hi' ≤ highest K := Int.le_trans (Int.min_le_left _ _) ha.high
      have hl : ∀ v ∈ no ++ no', v.k = K ∧ v.t = [] := fun v hv => by
        rcases List.mem_append.1 hv with h | h
        · exact ⟨(ha.no v h).1, (ha.no v h).2.1⟩
        · exact ⟨(hb'.no v h).1, (hb'.no v h).2.1⟩
      have hfin : ∀ r, IsInts K (max lo lo') (min hi hi') (no ++ no') r → IsMeet ⟨K, lo, hi, [], [], false, no⟩ ⟨K, lo', hi', [], [], false, no'⟩ r := fun r h =>
        meet_N ha hb' rfl (fun x => by show max lo lo' ≤ x ↔ lo ≤ x ∧ lo' ≤ x; omega) (fun x => by show x ≤ min hi hi' ↔ x ≤ hi ∧ x ≤ hi'; omega) (fun v => List.mem_append) h
      have hkk : K = 1 ∨ K = 3 := ha.kind
      rcases hkk with rfl | rfl
      · refine (rmeet_1 lo hi A n c lo' hi' A' n' c' w no no' hlow hhigh hl hn hm hn' hm' hr hr').mono ?_
        rintro e w' ⟨r, hi, hl, h⟩
        exact ⟨r, hfin r hi, by show r.no.length ≤ no.length + no'.length; dsimp only at hn hn'; omega, h.b hbase⟩
      · refine (rmeet_3 lo hi A n c lo' hi' A' n' c' w no no' hlow hhigh hl hn hm hn' hm' hr hr').mono ?_
        rintro e w' ⟨r, hi, hl, h⟩
        exact ⟨r, hfin r hi, by show r.no.length ≤ no.length + no'.length; dsimp only at hn hn'; omega, h.b hbase⟩
    · have hb' : CanonT b := by
        rcases hb with rfl | rfl | hb | hb
        · exact absurd hk (T_not4 ha).2
        · exact absurd hk h4
        · exact absurd (hk.symm.trans ha.kind) (N_not4 hb).2.1
        · exact hb
      have bda := canon_bd (.inr (.inr (.inr ha)))
      have bdb := canon_bd (.inr (.inr (.inr hb')))
      obtain ⟨K, lo, hi, f, t, o, no⟩ := a
      obtain ⟨K', lo', hi', f', t', o', no'⟩ := b
      have e1 : lo = 0 := ha.lo
      have e2 : hi = 0 := ha.hi
      have e3 : lo' = 0 := hb'.lo
      have e4 : hi' = 0 := hb'.hi
      have e5 : K = 2 := ha.kind
      have e6 : K' = 2 := hb'.kind
      subst e1; subst e2; subst e3; subst e4; subst e5; subst e6
      have hl : ∀ v ∈ no ++ no', v.k = 2 ∧ v.i = 0 ∧ v.t.length ≤ 32 := fun v hv => by
        rcases List.mem_append.1 hv with h | h
        · exact ⟨(ha.no v h).1, (ha.no v h).2.1, (ha.no v h).2.2.1⟩
        · exact ⟨(hb'.no v h).1, (hb'.no v h).2.1, (hb'.no v h).2.2.1⟩
      have i1 : o = true → t = [] := ha.isOpn
      have i2 : o' = true → t' = [] := hb'.isOpn
      have s1 : o = false → Short t := fun h => (ha.shut h).1
      have s2 : o' = false → Short t' := fun h => (hb'.shut h).1
      dsimp only at bda bdb
      refine (rmeet_2 f t o A n c f' t' o' A' n' c' w no no' _ rfl _ rfl (maxT_short ha.flen hb'.flen) ?_ ?_ (by omega) (by omega) (by omega) (by omega) hl hn hm hn' hm' hr hr').mono ?_
      · intro h
        cases o <;> cases o' <;> simp at h
        exact i2 rfl
      · intro h
        cases o <;> cases o' <;> simp at h
        · exact minT_short (s1 rfl) (s2 rfl)
        · exact s1 rfl
        · exact s2 rfl
      · rintro e w' ⟨r, hi, hl, h⟩
        refine ⟨r, meet_T ha hb' (fun x => maxT_le f f' x) (fun x => ?_) (fun v => List.mem_append) hi, by show r.no.length ≤ no.length + no'.length; dsimp only at hn hn'; omega, h.b hbase⟩
        show _ ↔ (o = true ∨ bytesLess x t = true) ∧ (o' = true ∨ bytesLess x t' = true)
        cases o <;> cases o' <;> simp
        exact minT_lt t t' x
  · refine (rmeet_unlike a.kind a.lo a.hi a.frm a.to_ a.opn A n c b.kind b.lo b.hi b.frm b.to_ b.opn A' n' c' w h4 h4' hk).mono ?_
    rintro e w' ⟨rfl, hbw⟩
    exact ⟨none_, meet_kinds h4 h4' hk, by simp [none_], none, 0, 0, rfl, rfl, Nat.le_refl _, OwnK.none_ _ _, hbw⟩
end Go.Proofs.Ytckabmlilbkmbaa
