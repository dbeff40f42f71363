/- Contracts of the program and of the document (RPrs), each used further on. -/
import Derived.Test.YtckabmlilbkmbaaC3
import Derived.Test.YtckabmlilbkmbaaE5
import Derived.Test.YtckabmlilbkmbaaE9
namespace Go.Proofs.Ytckabmlilbkmbaa
open Go.RowKit Go.Sort Spans Op
end Go.Proofs.Ytckabmlilbkmbaa
