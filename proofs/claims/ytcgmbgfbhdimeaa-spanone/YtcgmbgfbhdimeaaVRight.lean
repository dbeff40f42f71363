/- Package value: which values are right. -/
import Derived.Test.YtcgmbgfbhdimeaaVMath
import Derived.Test.YtcgmbgfbhdimeaaMem
import Derived.Laws.StructEq
namespace Go.Proofs.Ytcgmbgfbhdimeaa
open Go.RowKit
theorem blk3 {w : World} {g : Nat} {t : TypeId} {a b c : Value} (hB : Blk w g t #[a, b, c]) :
    w.cell? ⟨g, 0, none⟩ = some a ∧ w.cell? ⟨g, 1, none⟩ = some b ∧ w.cell? ⟨g, 2, none⟩ = some c ∧ w.frozen? ⟨g, 0, none⟩ = false ∧ w.frozen? ⟨g, 1, none⟩ = false ∧ w.frozen? ⟨g, 2, none⟩ = false :=
  ⟨hB.cell 0, hB.cell 1, hB.cell 2, hB.frozen 0, hB.frozen 1, hB.frozen 2⟩
/-- What == says of two values. -/
theorem eqV (a b c d : Int) (s t : List UInt8) (w : World) : (Op.equalIn 10000 24 (.agg #[.int .i64 a, .int .i64 b, .string ⟨s.toArray⟩]) (.agg #[.int .i64 c, .int .i64 d, .string ⟨t.toArray⟩])).run Try.prog w = .ok (decide (a = c ∧ b = d ∧ s = t)) w := by
  have hS : Try.prog.underlying 24 = some (.struct (Try.prog.fieldsOf 24)) := by kernel_rfl
  have hp : Try.prog.stoodInHeld 24 = false := by kernel_rfl
  have u3 := Try.underlying3
  have u9 := Try.underlying9
  rw [show (10000 : Nat) = 9999 + 1 from rfl, run_equalIn_agg w 9999 24 _ _ hS hp]
  simp only [Program.fieldsOf, Try.underlying24]
  go_simp
  by_cases h1 : a = c <;> by_cases h2 : b = d <;> by_cases h3 : s = t <;> simp [h1, h2, h3]
theorem eqGuardV : Try.prog.eqGuardType Try.prog.depth 24 = false := by kernel_rfl
set_option maxRecDepth 100000 in
theorem right_at (k i : Int) (t : List UInt8) (w : World) (hl : t.length ≤ 9223372036854775807) :
    Calls Try.prog 23 #[.agg #[.int .i64 k, .int .i64 i, .string ⟨t.toArray⟩]] w fun e w' => e = .returned (.bool (Vals.right k i t)) ∧ Below w.heap.size w w' := by
  go_enter Try.func23, Try.ntmps23
  go_wp2
  all_goals (go_ret; refine ⟨congrArg (fun b => Ending.returned (Value.bool b)) ?_, (Below.refl _ _).alloc (Nat.le_refl _) _⟩)
  all_goals (simp_all [Vals.right])
  · cases t <;> rfl
  all_goals omega
set_option maxRecDepth 100000 in
theorem refRight_at (k i : Int) (t : List UInt8) (w : World) (hl : t.length ≤ 9223372036854775807) :
    Calls Try.prog 41 #[.agg #[.int .i64 k, .int .i64 i, .string ⟨t.toArray⟩]] w fun e w' => e = .returned (.bool (Vals.right k i t)) ∧ Below w.heap.size w w' := by
  go_enter Try.func41, Try.ntmps41
  go_wp2
  all_goals (go_ret; refine ⟨congrArg (fun b => Ending.returned (Value.bool b)) ?_, (Below.refl _ _).alloc (Nat.le_refl _) _⟩)
  all_goals (simp_all [Vals.right])
  · cases t <;> rfl
  all_goals omega
end Go.Proofs.Ytcgmbgfbhdimeaa
