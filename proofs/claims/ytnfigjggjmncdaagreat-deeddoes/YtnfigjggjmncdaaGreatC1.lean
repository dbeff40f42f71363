/- Contracts. -/
import Derived.Test.YtnfigjggjmncdaaGreatA4
import Derived.Test.YtnfigjggjmncdaaGreatB4
import Derived.Test.YtnfigjggjmncdaaGreatB5
set_option maxRecDepth 100000
set_option maxHeartbeats 4000000
namespace Go.Proofs.YtnfigjggjmncdaaGreat
section
open Go.RowKit Go.Sort Spans Op
def fewP (l:List Pr):Bool:=decide (∀p∈l,p.n.length<=100/\p.t.length<=100) && decide (l.length<=24)
def Folds (w:World) (l:List Pr) (e:Ending) (w':World):Prop:=∃r,IsAll l r/\r.no.length<=l.length/\Gives w r e w'
end
end Go.Proofs.YtnfigjggjmncdaaGreat
