/- Contracts of the program and of the document (REnd, RndT), each used further on. -/
import Derived.Deep.CutRange
import Derived.Test.YtckabmlilbkmbaaC2
import Derived.Test.YtckabmlilbkmbaaE5
namespace Go.Proofs.Ytckabmlilbkmbaa
open Go.RowKit Go.Sort Spans Op
end Go.Proofs.Ytckabmlilbkmbaa
namespace Go.Proofs.Ytckabmlilbkmbaa
open Go.RowKit Go.Sort Spans Op
/-- Where the walk stands: the span's box, the row so far (at most k long). -/
structure EG (w wx : World) (cs : Array Value) (v : Value) (l : List Pr) (k : Nat) : Prop where
  x : Blk wx w.heap.size 58 cs
  o : OwnQ wx (w.heap.size + 1) v l
  b : Below w.heap.size w wx
  l : l.length ≤ k
theorem EG.grown {w wx wy : World} {cs : Array Value} {v : Value} {l : List Pr} {k : Nat} (h : EG w wx cs v l k) (hg : Grown wx wy) : EG w wy cs v l k :=
  ⟨Blk.below h.x hg.below h.x.lt, OwnK.below h.o hg.below, below_next h.b (Nat.le_refl _) hg.below, h.l⟩
theorem EG.to {w wx : World} {cs : Array Value} {v : Value} {l l2 : List Pr} {k k2 : Nat} (h : EG w wx cs v l k) (e : l = l2) (hk : l2.length ≤ k2) : EG w wx cs v l2 k2 := by
  subst e; exact ⟨h.x, h.o, h.b, hk⟩
end Go.Proofs.Ytckabmlilbkmbaa
