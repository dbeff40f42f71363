/- Worlds that grow: draws, and new blocks behind; is a value right, so told. -/
import Derived.Test.YtcgmbgfbhdimeaaVRight
import Derived.Shelf.SlSortCmp.QuietGrown
namespace Go.Proofs.Ytcgmbgfbhdimeaa
open Go.RowKit Go.Sort
theorem maxLen_num : maxLen = 9223372036854775807 := rfl
/-- Draws, and new blocks behind. -/
def Grown (w w' : World) : Prop := ∃ q os, w' = grow (w.drewN q) os
theorem Grown.refl (w : World) : Grown w w := ⟨0, #[], by rw [grow_empty]; rfl⟩
theorem Grown.alloc {w w' : World} (h : Grown w w') (o : Obj) : Grown w (w'.alloc o) := by
  obtain ⟨q, os, rfl⟩ := h
  exact ⟨q, os ++ #[o], by rw [alloc_eq_grow, grow_grow]⟩
theorem Grown.trans {a b c : World} (h : Grown a b) (k : Grown b c) : Grown a c := by
  obtain ⟨q, os, rfl⟩ := h
  obtain ⟨q', os', rfl⟩ := k
  exact ⟨q + q', os ++ os', by show grow (grow ((a.drewN q).drewN q') os) os' = _; rw [grow_grow, World.drewN_drewN]⟩
theorem Grown.more {a b : World} (h : Grown a b) (n : Nat) (os : Array Obj) : Grown a (grow (b.drewN n) os) := h.trans ⟨n, os, rfl⟩
theorem Grown.below {w w' : World} (h : Grown w w') : Below w.heap.size w w' := by
  obtain ⟨q, os, rfl⟩ := h
  refine ⟨rfl, rfl, rfl, by simp, fun k hk => ?_⟩
  show (w.heap ++ os)[k]? = _
  rw [Array.getElem?_append_left hk]
theorem ret_bool {a b : Bool} (h : a = b) : Ending.returned (.bool a) = .returned (.bool b) := by rw [h]
set_option maxRecDepth 100000 in
theorem right_gr (k i : Int) (t : List UInt8) (w : World) (hl : t.length ≤ 9223372036854775807) :
    Calls Try.prog 23 #[.agg #[.int .i64 k, .int .i64 i, .string ⟨t.toArray⟩]] w fun e w' => e = .returned (.bool (Vals.right k i t)) ∧ Grown w w' := by
  go_enter Try.func23, Try.ntmps23
  go_wp2
  all_goals (go_ret; refine ⟨congrArg (fun b => Ending.returned (Value.bool b)) ?_, (Grown.refl _).alloc _⟩)
  all_goals (simp_all [Vals.right])
  · cases t <;> rfl
  all_goals omega
set_option maxRecDepth 100000 in
theorem refRight_gr (k i : Int) (t : List UInt8) (w : World) (hl : t.length ≤ 9223372036854775807) :
    Calls Try.prog 41 #[.agg #[.int .i64 k, .int .i64 i, .string ⟨t.toArray⟩]] w fun e w' => e = .returned (.bool (Vals.right k i t)) ∧ Grown w w' := by
  go_enter Try.func41, Try.ntmps41
  go_wp2
  all_goals (go_ret; refine ⟨congrArg (fun b => Ending.returned (Value.bool b)) ?_, (Grown.refl _).alloc _⟩)
  all_goals (simp_all [Vals.right])
  · cases t <;> rfl
  all_goals omega
end Go.Proofs.Ytcgmbgfbhdimeaa
