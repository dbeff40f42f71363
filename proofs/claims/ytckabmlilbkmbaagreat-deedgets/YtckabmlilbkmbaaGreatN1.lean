/- Contracts of the program and of the document (WRef), each used further on. -/
import Derived.Test.YtckabmlilbkmbaaGreatM1
set_option maxRecDepth 100000
set_option maxHeartbeats 4000000
namespace Go.Proofs.YtckabmlilbkmbaaGreat
section
open Go.RowKit
end
end Go.Proofs.YtckabmlilbkmbaaGreat
