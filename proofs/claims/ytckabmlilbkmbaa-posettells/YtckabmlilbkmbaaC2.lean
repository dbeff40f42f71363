/- Contracts of the program and of the document (SPrd, SOnl), each used further on. -/
import Derived.Test.YtckabmlilbkmbaaC1
namespace Go.Proofs.Ytckabmlilbkmbaa
open Go.RowKit Go.Sort Spans Op
theorem ext_init (u : List UInt8) (x : UInt8) : (⟨(u ++ [x]).toArray⟩ : ByteArray).extract 0 u.length = ⟨u.toArray⟩ := by
  apply ByteArray.ext
  simp [ByteArray.data_extract]
/-- What CutSuffix of a byte 0 tells. -/
def cutZ (s : List UInt8) : List UInt8 := (zeroEnd s).getD s
/-- The predicate of a text's end. -/
def teP (n e : List UInt8) (plain cut : Int) : Pr := ⟨n, if (zeroEnd e).isSome then cut else plain, 2, 0, cutZ e⟩
/-- A row of predicates handed back, in new memory. -/
def GivesQ (w : World) (l : List Pr) (e : Ending) (w' : World) : Prop := ∃ v, e = .returned v ∧ OwnQ w' w.heap.size v l ∧ Below w.heap.size w w'
end Go.Proofs.Ytckabmlilbkmbaa
namespace Go.Proofs.Ytckabmlilbkmbaa
open Go.RowKit Go.Sort Spans Op
end Go.Proofs.Ytckabmlilbkmbaa
