/- Contracts of the program and of the document (TRL, TRight, TFew, TArgs), each used further on. -/
import Derived.Test.YtckabmlilbkmbaaGreatM1
import Derived.Test.YtckabmlilbkmbaaGreatD2
import Derived.Test.YtckabmlilbkmbaaGreatT1
import Derived.Test.YtckabmlilbkmbaaGreatT2
set_option maxRecDepth 100000
set_option maxHeartbeats 4000000
namespace Go.Proofs.YtckabmlilbkmbaaGreat
section
open Go.RowKit Go.Sort Spans Tb
end
section
open Go.RowKit Go.Sort Spans Tb
def PBs (es : List Ex) : Prop := ∀ x ∈ es, PBd x.f
end
section
open Go.RowKit Go.Sort Spans Tb
def shortP (p : Pr) : Prop := p.n.length <= 100 /\ p.t.length <= 100
instance (p : Pr) : Decidable (shortP p) := inferInstanceAs (Decidable (_ /\ _))
def total (xs : List Ex) : Nat := (xs.map Ex.n).sum
def fewE (xs : List Ex) : Bool := decide (∀ x ∈ xs, ∀ p ∈ x.f, shortP p) && (decide (xs.length <= 80) && decide (total xs <= 300))
def SumIs (m : Nat) (t : Nat) (s : Int) : Prop := m <= 80 -> s = (t : Int)
end
section
open Go.RowKit Go.ChangeShapes Go.WideShapes Go.Deep Go.Joins Spans Tb
section
variable {H : Type} {enc : TypeId × Value -> H} {w : World} {base : Nat} {spare : Nat -> Bool} {held : Bool}
end
end
end Go.Proofs.YtckabmlilbkmbaaGreat
