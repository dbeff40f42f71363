/- Contracts of the program and of the document (SPrs, SSmlM), each used further on. -/
import Derived.Test.YtckabmlilbkmbaaC2
namespace Go.Proofs.Ytckabmlilbkmbaa
open Go.RowKit Go.Sort Spans Op
end Go.Proofs.Ytckabmlilbkmbaa
namespace Spans
open Go.Op (bytesLess)
def aI : List Pr := [⟨[97], 6, 1, 3, []⟩, ⟨[97], 3, 1, 6, []⟩, ⟨[97], 2, 1, 3, []⟩]
def aT : List Pr := [⟨[97], 7, 2, 0, [97, 255]⟩, ⟨[97], 2, 2, 0, [97, 255]⟩]
def spI : Sp := ⟨1, 4, 5, [], [], false, []⟩
def spT : Sp := ⟨2, 0, 0, [97, 255, 0], [98], false, []⟩
theorem r1 : rightP ⟨[97], 6, 1, 3, []⟩ = true := by decide
theorem r2 : rightP ⟨[97], 3, 1, 6, []⟩ = true := by decide
theorem r3 : rightP ⟨[97], 2, 1, 3, []⟩ = true := by decide
theorem r4 : rightP ⟨[97], 7, 2, 0, [97, 255]⟩ = true := by decide
theorem r5 : rightP ⟨[97], 2, 2, 0, [97, 255]⟩ = true := by decide
/-- What Preds tells, of whatever name. -/
def prs (n : List UInt8) (a : Sp) : List Pr := if 1 ≤ n.length ∧ n.length ≤ 16 then predsOf n a else []
end Spans
namespace Go.Proofs.Ytckabmlilbkmbaa
open Go.RowKit Go.Sort Spans Op
end Go.Proofs.Ytckabmlilbkmbaa
