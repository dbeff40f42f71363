/- Contracts. -/
import Derived.Test.YtnfigjggjmncdaaGreatM1
import Derived.Test.YtnfigjggjmncdaaGreatA1
set_option maxRecDepth 100000
set_option maxHeartbeats 4000000
namespace Go.Proofs.YtnfigjggjmncdaaGreat
section
open Go.RowKit
end
section
open Go.RowKit Go.Sort Ev
def meetsV (es:List At) (n:LU) (o k i:Int) (t:LU):Bool:=
 match find es n with
 | some a=>Preds.holds n o k i t a.k a.i a.t
 | none=>false
theorem find_mem {es:List At} {s:LU} {a:At} (h:find es s=some a):a∈es:=List.mem_of_find?_eq_some h
end
end Go.Proofs.YtnfigjggjmncdaaGreat
