/- Arguments, opened: a struct of two integers and a text, by value. -/
import Derived.Test.YtcgmbgfbhdimeaaMem
import Derived.Lib.SmallJoins
namespace Go.Proofs.Ytcgmbgfbhdimeaa
open Go.RowKit Go.ChangeShapes Go.WideShapes Go.Deep Go.Joins
section
variable {H : Type} {enc : TypeId × Value → H} {P : Program} {w : World} {base : Nat} {spare : Nat → Bool} {held : Bool}
theorem open_val_of {r : Reach} {b0 : Nat} {t : TypeId} {f0 f1 f2 : Field} {v : Value} {d : DataW H} {p : List MemPlace} (hs : P.underlying t = some (.struct #[f0, f1, f2])) (hone : oneCellFields P #[f0, f1, f2] = true) (hC : P.cellsOf t = 3)
    (h0 : P.underlying f0.type = some (.int .i64)) (h1 : P.underlying f1.type = some (.int .i64)) (h2 : P.underlying f2.type = some .string) (hv : Value.okWide P w r b0 t v) (h : DataW.Trod enc P w base spare held t v d p) :
    ∃ (k i : Int) (s : List UInt8), v = .agg #[.int .i64 k, .int .i64 i, .string ⟨s.toArray⟩] ∧ (Lit.int .i64 k).wf = true ∧ (Lit.int .i64 i).wf = true ∧ s.length ≤ maxLen := by
  obtain ⟨v0, v1, v2, y0, y1, y2, n, rfl, _, _, g0, g1, g2⟩ := open_agg3 hs hone hC hv h
  obtain ⟨k, e0, _, w0⟩ := DataW.trod_int h0 g0
  obtain ⟨i, e1, _, w1⟩ := DataW.trod_int h1 g1
  obtain ⟨⟨⟨s⟩⟩, e2, _, w2⟩ := DataW.trod_string h2 g2
  simp at e0 e1 e2
  subst e0 e1 e2
  exact ⟨k, i, s, rfl, w0, w1, w2⟩
end
end Go.Proofs.Ytcgmbgfbhdimeaa
