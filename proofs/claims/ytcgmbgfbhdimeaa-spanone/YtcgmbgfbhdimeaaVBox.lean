/- Values in boxes: parameters of three cells; is a value right, with the answer at hand. -/
import Derived.Test.YtcgmbgfbhdimeaaVRight
namespace Go.Proofs.Ytcgmbgfbhdimeaa
open Go.RowKit
theorem right_is (k i : Int) (t : List UInt8) (w : World) (hl : t.length ≤ 9223372036854775807) (b : Bool) (hb : Vals.right k i t = b) :
    Calls Try.prog 23 #[.agg #[.int .i64 k, .int .i64 i, .string ⟨t.toArray⟩]] w fun e w' => e = .returned (.bool b) ∧ Below w.heap.size w w' := by
  subst hb; exact right_at k i t w hl
theorem refRight_is (k i : Int) (t : List UInt8) (w : World) (hl : t.length ≤ 9223372036854775807) (b : Bool) (hb : Vals.right k i t = b) :
    Calls Try.prog 41 #[.agg #[.int .i64 k, .int .i64 i, .string ⟨t.toArray⟩]] w fun e w' => e = .returned (.bool b) ∧ Below w.heap.size w w' := by
  subst hb; exact refRight_at k i t w hl
theorem box3 (w : World) (t : TypeId) (a b c : Value) : Blk (w.alloc (.cells #[a, b, c] t)) w.heap.size t #[a, b, c] ∧ Below w.heap.size w (w.alloc (.cells #[a, b, c] t)) :=
  ⟨Blk.new w _ _, (Below.refl _ _).alloc (Nat.le_refl _) _⟩
theorem box3x2 (w : World) (t : TypeId) (a b c a' b' c' : Value) :
    Blk ((w.alloc (.cells #[a, b, c] t)).alloc (.cells #[a', b', c'] t)) w.heap.size t #[a, b, c] ∧ Blk ((w.alloc (.cells #[a, b, c] t)).alloc (.cells #[a', b', c'] t)) (w.heap.size + 1) t #[a', b', c'] ∧
      Below w.heap.size w ((w.alloc (.cells #[a, b, c] t)).alloc (.cells #[a', b', c'] t)) :=
  ⟨(Blk.new w _ _).alloc _, by simpa using Blk.new (w.alloc (.cells #[a, b, c] t)) t #[a', b', c'], ((Below.refl _ _).alloc (Nat.le_refl _) _).alloc (by simp) _⟩
theorem box3x3 (w : World) (t : TypeId) (a b c a' b' c' a'' b'' c'' : Value) :
    Blk (((w.alloc (.cells #[a, b, c] t)).alloc (.cells #[a', b', c'] t)).alloc (.cells #[a'', b'', c''] t)) w.heap.size t #[a, b, c] ∧ Blk (((w.alloc (.cells #[a, b, c] t)).alloc (.cells #[a', b', c'] t)).alloc (.cells #[a'', b'', c''] t)) (w.heap.size + 1) t #[a', b', c'] ∧
      Blk (((w.alloc (.cells #[a, b, c] t)).alloc (.cells #[a', b', c'] t)).alloc (.cells #[a'', b'', c''] t)) (w.heap.size + 2) t #[a'', b'', c''] ∧ Below w.heap.size w (((w.alloc (.cells #[a, b, c] t)).alloc (.cells #[a', b', c'] t)).alloc (.cells #[a'', b'', c''] t)) :=
  ⟨((Blk.new w _ _).alloc _).alloc _, by simpa using (Blk.new (w.alloc (.cells #[a, b, c] t)) t #[a', b', c']).alloc (.cells #[a'', b'', c''] t), by simpa using Blk.new ((w.alloc (.cells #[a, b, c] t)).alloc (.cells #[a', b', c'] t)) t #[a'', b'', c''],
    (((Below.refl _ _).alloc (Nat.le_refl _) _).alloc (by simp) _).alloc (by simp; omega) _⟩
end Go.Proofs.Ytcgmbgfbhdimeaa
