/- Package span: the small functions over spans by value. -/
import Derived.Test.YtcgmbgfbhdimeaaSRow
import Derived.Test.YtcgmbgfbhdimeaaPRight
import Derived.Test.YtcgmbgfbhdimeaaQuiet
import Derived.Lib.MinMax
import Derived.BigQuiet
namespace Go.Proofs.Ytcgmbgfbhdimeaa
open Go.RowKit Spans Op
/-- A span by value, field by field. -/
abbrev spF (K lo hi : Int) (f t : List UInt8) (o : Bool) (A : Option Addr) (n c : Nat) : Value := .agg #[.int .i64 K, .int .i64 lo, .int .i64 hi, .string ⟨f.toArray⟩, .string ⟨t.toArray⟩, .bool o, .slice A n c]
theorem ba_app (a b : List UInt8) : (⟨a.toArray⟩ : ByteArray) ++ ⟨b.toArray⟩ = ⟨(a ++ b).toArray⟩ := by apply ByteArray.ext; simp [ByteArray.data_append]
theorem ba_app0 (a : List UInt8) : (⟨a.toArray⟩ : ByteArray) ++ ⟨#[0]⟩ = ⟨(a ++ [0]).toArray⟩ := ba_app a [0]
theorem ba_list (a : List UInt8) : (⟨a.toArray⟩ : ByteArray).toList = a := by rw [ByteArray.toList_eq]
def minT (a b : List UInt8) : List UInt8 := if bytesLess b a = true then b else a
def maxT (a b : List UInt8) : List UInt8 := if bytesLess a b = true then b else a
theorem leq_less (a b : List UInt8) : (bytesLess a b || a == b) = !bytesLess b a := by
  rcases less_or a b with h | h | h
  · rw [h, le_of_lt h]; rfl
  · subst h; rw [Vals.less_irr]; simp
  · rw [h, le_of_lt h]
    have : a ≠ b := fun e => by subst e; rw [Vals.less_irr] at h; simp at h
    simp [this]
theorem Grown.drewN {a b : World} (h : Grown a b) (n : Nat) : Grown a (b.drewN n) := h.trans ⟨n, #[], by rw [Go.Sort.grow_empty]⟩
theorem run_minT {P : Program} (a b : List UInt8) (W : World) (ts : Array TypeId) (ty : TypeId) : (Builtin.min_ ts ty #[.string ⟨a.toArray⟩, .string ⟨b.toArray⟩]).run P W = .ok (.string ⟨(minT a b).toArray⟩) W := by
  have e2 := leq_less a b
  cases hc : bytesLess b a <;> simp [Builtin.min_, Builtin.min2, Op.stringOp, asBool, minT, hc, e2]
theorem run_maxT {P : Program} (a b : List UInt8) (W : World) (ts : Array TypeId) (ty : TypeId) : (Builtin.max_ ts ty #[.string ⟨a.toArray⟩, .string ⟨b.toArray⟩]).run P W = .ok (.string ⟨(maxT a b).toArray⟩) W := by
  cases hc : bytesLess a b <;> simp [Builtin.max_, Builtin.max2, Op.stringOp, asBool, maxT, hc]
theorem gr1 (w : World) (a : Obj) : Grown w (w.alloc a) := (Grown.refl w).alloc a
theorem gr2 (w : World) (a b : Obj) : Grown w ((w.alloc a).alloc b) := (gr1 w a).alloc b
theorem gr3 (w : World) (a b c : Obj) : Grown w (((w.alloc a).alloc b).alloc c) := (gr2 w a b).alloc c
set_option maxRecDepth 100000 in
theorem all_at (w : World) : Calls Try.prog 27 #[] w fun e w' => e = .returned (spF 4 0 0 [] [] false none 0 0) ∧ Grown w w' := by
  go_enter Try.func27, Try.ntmps27
  go_wp2_with fail
  refine bodyPost_ret (v := spF 4 0 0 [] [] false none 0 0) (by simp [results, Try.results27, go_sem]) rfl ?_
  exact ⟨rfl, gr1 _ _⟩
set_option maxRecDepth 100000 in
theorem whole_at (K : Int) (w : World) (hK : K = 1 ∨ K = 2 ∨ K = 3) : Calls Try.prog 45 #[.int .i64 K] w fun e w' => e = .returned (spF K (if K = 1 then -9223372036854775808 else 0) (if K = 1 then 9223372036854775807 else if K = 3 then 1 else 0) [] [] (K == 2) none 0 0) ∧ Grown w w' := by
  go_enter Try.func45, Try.ntmps45
  rcases hK with rfl | rfl | rfl
  · go_wp2_with fail
    refine bodyPost_ret (v := spF 1 (-9223372036854775808) 9223372036854775807 [] [] false none 0 0) (by simp [results, Try.results45, go_sem]) rfl ?_
    exact ⟨rfl, gr2 _ _ _⟩
  · go_wp2_with fail
    refine bodyPost_ret (v := spF 2 0 0 [] [] true none 0 0) (by simp [results, Try.results45, go_sem]) rfl ?_
    exact ⟨rfl, gr2 _ _ _⟩
  · go_wp2_with fail
    refine bodyPost_ret (v := spF 3 0 1 [] [] false none 0 0) (by simp [results, Try.results45, go_sem]) rfl ?_
    exact ⟨rfl, gr2 _ _ _⟩
set_option maxRecDepth 100000 in
theorem begin_num (K lo hi : Int) (f t : List UInt8) (o : Bool) (A : Option Addr) (n c : Nat) (k i : Int) (x : List UInt8) (w : World) (hK : K ≠ 2) : Calls Try.prog 52 #[spF K lo hi f t o A n c, .agg #[.int .i64 k, .int .i64 i, .string ⟨x.toArray⟩]] w fun e w' => e = .returned (spF K i hi f t o A n c) ∧ Grown w w' := by
  go_enter Try.func52, Try.ntmps52
  have h2 : (K == 2) = false := beq_eq_false_iff_ne.2 hK
  go_wp2_with fail
  refine bodyPost_ret (v := spF K i hi f t o A n c) (by simp [results, Try.results52, go_sem]) rfl ?_
  exact ⟨rfl, gr3 _ _ _ _⟩
set_option maxRecDepth 100000 in
theorem begin_text (lo hi : Int) (f t : List UInt8) (o : Bool) (A : Option Addr) (n c : Nat) (k i : Int) (x : List UInt8) (w : World) : Calls Try.prog 52 #[spF 2 lo hi f t o A n c, .agg #[.int .i64 k, .int .i64 i, .string ⟨x.toArray⟩]] w fun e w' => e = .returned (spF 2 lo hi x t o A n c) ∧ Grown w w' := by
  go_enter Try.func52, Try.ntmps52
  go_wp2_with fail
  refine bodyPost_ret (v := spF 2 lo hi x t o A n c) (by simp [results, Try.results52, go_sem]) rfl ?_
  exact ⟨rfl, gr3 _ _ _ _⟩
set_option maxRecDepth 100000 in
theorem end_num (K lo hi : Int) (f t : List UInt8) (o : Bool) (A : Option Addr) (n c : Nat) (k i : Int) (x : List UInt8) (w : World) (hK : K ≠ 2) : Calls Try.prog 51 #[spF K lo hi f t o A n c, .agg #[.int .i64 k, .int .i64 i, .string ⟨x.toArray⟩]] w fun e w' => e = .returned (spF K lo i f t o A n c) ∧ Grown w w' := by
  go_enter Try.func51, Try.ntmps51
  have h2 : (K == 2) = false := beq_eq_false_iff_ne.2 hK
  go_wp2_with fail
  refine bodyPost_ret (v := spF K lo i f t o A n c) (by simp [results, Try.results51, go_sem]) rfl ?_
  exact ⟨rfl, gr3 _ _ _ _⟩
set_option maxRecDepth 100000 in
theorem end_text (lo hi : Int) (f t : List UInt8) (o : Bool) (A : Option Addr) (n c : Nat) (k i : Int) (x : List UInt8) (w : World) (hx : x.length ≤ 100000) : Calls Try.prog 51 #[spF 2 lo hi f t o A n c, .agg #[.int .i64 k, .int .i64 i, .string ⟨x.toArray⟩]] w fun e w' => e = .returned (spF 2 lo hi f (x ++ [0]) false A n c) ∧ Grown w w' := by
  go_enter Try.func51, Try.ntmps51
  go_wp2_with fail
  refine bodyPost_ret (v := spF 2 lo hi f (x ++ [0]) false A n c) (by simp [results, Try.results51, go_sem, ba_app0]) rfl ?_
  exact ⟨rfl, gr3 _ _ _ _⟩
set_option maxRecDepth 100000 in
theorem shutsOut_at (o : Int) (w : World) (b : Bool) (hb : (o == 2 || o == 3 || o == 5) = b) : Calls Try.prog 54 #[.int .i64 o] w fun e w' => e = .returned (.bool b) ∧ w' = w := by
  go_enter Try.func54, Try.ntmps54
  go_wp2_with fail
  all_goals (go_ret; refine ⟨ret_b ?_, rfl⟩; simp_all)
set_option maxRecDepth 100000 in
theorem lesser_at (K lo hi : Int) (f t : List UInt8) (o : Bool) (A : Option Addr) (n c : Nat) (K' lo' hi' : Int) (f' t' : List UInt8) (o' : Bool) (A' : Option Addr) (n' c' : Nat) (w : World) :
    Calls Try.prog 32 #[spF K lo hi f t o A n c, spF K' lo' hi' f' t' o' A' n' c'] w fun e w' => e = .returned (.tuple #[.string ⟨(if o then t' else if o' then t else minT t t').toArray⟩, .bool (o && o')]) ∧ Grown w w' := by
  have hmin := run_minT (P := Try.prog) t t'
  go_enter Try.func32, Try.ntmps32
  cases o
  · cases o'
    · go_wp2_with fail
      go_ret2
      exact ⟨rfl, gr2 _ _ _⟩
    · go_wp2_with fail
      go_ret2
      exact ⟨rfl, gr2 _ _ _⟩
  · go_wp2_with fail
    go_quiet (fail)
    go_wp2_with fail
    go_ret2
    exact ⟨rfl, (gr2 _ _ _).drewN _⟩
set_option maxRecDepth 100000 in
theorem between_num (K lo hi : Int) (f t : List UInt8) (o : Bool) (A : Option Addr) (n c : Nat) (k i : Int) (x : List UInt8) (w : World) (hK : K ≠ 2) : Calls Try.prog 39 #[spF K lo hi f t o A n c, .agg #[.int .i64 k, .int .i64 i, .string ⟨x.toArray⟩]] w fun e w' => e = .returned (.bool (inN lo hi i)) ∧ Grown w w' := by
  go_enter Try.func39, Try.ntmps39
  have h2 : (K == 2) = false := beq_eq_false_iff_ne.2 hK
  go_wp2_with fail
  all_goals (go_ret; refine ⟨ret_b ?_, gr2 _ _ _⟩; simp_all [inN])
  all_goals omega
set_option maxRecDepth 100000 in
theorem between_text (lo hi : Int) (f t : List UInt8) (o : Bool) (A : Option Addr) (n c : Nat) (k i : Int) (x : List UInt8) (w : World) : Calls Try.prog 39 #[spF 2 lo hi f t o A n c, .agg #[.int .i64 k, .int .i64 i, .string ⟨x.toArray⟩]] w fun e w' => e = .returned (.bool (inT f t o x)) ∧ Grown w w' := by
  go_enter Try.func39, Try.ntmps39
  go_wp2_with fail
  all_goals (go_ret; refine ⟨ret_b ?_, gr2 _ _ _⟩; have key := leq_less f x; cases hx : bytesLess x f <;> rw [hx] at key <;> simp_all [inT])
end Go.Proofs.Ytcgmbgfbhdimeaa
