/-
  No cell of these rows narrows 'for every input' (looked for: loops, veiled, ifaces, maps, wideKeys, modest, calm, conditions, laid).
  DERIVED. THE GIVEN ROWS OF THIS SEAT. 6 by the template 'for every input the law returns true; each argument reads behind the call as it read before'; 0 by the template 'total and deterministic' (their statements: YtckabmlilbkmbaaTotals.lean).
  GIVEN WITH THE SEED: the statements are not yours to turn. If you find one false, say at which input.
  Laid BY PROGRAM, IN A SANDBOX (cutbox-rows.mjs): the forced cells as the released guide's own fill.sh prints them over the translation 6e6a2c9805c151e5… (all of the seat's roots in one cut). By AI agents, Wed Nov 11 2026. No macro, syntax, notation, axiom, sorry.
-/
import Derived.Test.YtckabmlilbkmbaaChecked
import GoSem.Claim
import GoSem.ClaimJoined
import GoSem.ClaimMapViews
import Derived.JoinedTies
import Derived.KernelRfl
namespace Go.Proofs.Ytckabmlilbkmbaa
/- THE CELL 'sum', in the pinned program and in every row, IS THE sha256 OF THE DUMP (.gsa) THAT YtckabmlilbkmbaaProg.lean LOADS. Nothing in Lean hashes anything: it is a label: what it is worth is what the hold of that sum in a sandbox is worth. -/
noncomputable def Try.pinned : Pinned := { name := "ytckabmlilbkmbaa", sum := "6e6a2c9805c151e51d6f9322362fcc9dfec08af06868993a33fecd92246695d3", checked := Try.checked }
namespace Rows
def none {H : Type} : Left H := { results := [], args := [] }

/-- 'rosettelaw11.PosetTells': WHATEVER THE INPUT: true; the input reads as it did. -/
def posetTellsSpec : ChangeSpec := { name := "posetTells", fn := fun _ => fun
  | [d] => { results := [.lit (.bool true)], args := [d] }
  | _ => none }
def posetTellsRow : OpenClaim := { program := "ytckabmlilbkmbaa", sum := "6e6a2c9805c151e51d6f9322362fcc9dfec08af06868993a33fecd92246695d3", func := "rosette/rosettelaw11.PosetTells", spec := "posetTells", unfollowed := true, recurses := true, apart := false }
def PosetTellsSaid : Prop := posetTellsRow.holds Try.pinned (OpenSpec.ofChange posetTellsSpec)

/-- ITS FALSE NEIGHBOUR: 'it returns false'. Refute it at one input. -/
def posetTellsWrong : ChangeSpec := { name := "posetTells", fn := fun _ => fun
  | [d] => { results := [.lit (.bool false)], args := [d] }
  | _ => none }
def PosetTellsWrongFalsely : Prop := posetTellsRow.holds Try.pinned (OpenSpec.ofChange posetTellsWrong)

/-- 'rosettelaw11.PosetOrders': WHATEVER THE INPUT: true; the input reads as it did. -/
def posetOrdersSpec : ChangeSpec := { name := "posetOrders", fn := fun _ => fun
  | [d1, d2, d3] => { results := [.lit (.bool true)], args := [d1, d2, d3] }
  | _ => none }
def posetOrdersRow : OpenClaim := { program := "ytckabmlilbkmbaa", sum := "6e6a2c9805c151e51d6f9322362fcc9dfec08af06868993a33fecd92246695d3", func := "rosette/rosettelaw11.PosetOrders", spec := "posetOrders", unfollowed := true, recurses := true, apart := false }
def PosetOrdersSaid : Prop := posetOrdersRow.holds Try.pinned (OpenSpec.ofChange posetOrdersSpec)

/-- ITS FALSE NEIGHBOUR: 'it returns false'. Refute it at one input. -/
def posetOrdersWrong : ChangeSpec := { name := "posetOrders", fn := fun _ => fun
  | [d1, d2, d3] => { results := [.lit (.bool false)], args := [d1, d2, d3] }
  | _ => none }
def PosetOrdersWrongFalsely : Prop := posetOrdersRow.holds Try.pinned (OpenSpec.ofChange posetOrdersWrong)

/-- 'rosettelaw11.PosetEdges': WHATEVER THE INPUT: true; the input reads as it did. -/
def posetEdgesSpec : ChangeSpec := { name := "posetEdges", fn := fun _ => fun
  | [d] => { results := [.lit (.bool true)], args := [d] }
  | _ => none }
def posetEdgesRow : OpenClaim := { program := "ytckabmlilbkmbaa", sum := "6e6a2c9805c151e51d6f9322362fcc9dfec08af06868993a33fecd92246695d3", func := "rosette/rosettelaw11.PosetEdges", spec := "posetEdges", unfollowed := true, recurses := true, apart := false }
def PosetEdgesSaid : Prop := posetEdgesRow.holds Try.pinned (OpenSpec.ofChange posetEdgesSpec)

/-- ITS FALSE NEIGHBOUR: 'it returns false'. Refute it at one input. -/
def posetEdgesWrong : ChangeSpec := { name := "posetEdges", fn := fun _ => fun
  | [d] => { results := [.lit (.bool false)], args := [d] }
  | _ => none }
def PosetEdgesWrongFalsely : Prop := posetEdgesRow.holds Try.pinned (OpenSpec.ofChange posetEdgesWrong)

/-- 'rosettelaw11.PosetTops': WHATEVER THE INPUT: true; the input reads as it did. -/
def posetTopsSpec : ChangeSpec := { name := "posetTops", fn := fun _ => fun
  | [d] => { results := [.lit (.bool true)], args := [d] }
  | _ => none }
def posetTopsRow : OpenClaim := { program := "ytckabmlilbkmbaa", sum := "6e6a2c9805c151e51d6f9322362fcc9dfec08af06868993a33fecd92246695d3", func := "rosette/rosettelaw11.PosetTops", spec := "posetTops", unfollowed := true, recurses := true, apart := false }
def PosetTopsSaid : Prop := posetTopsRow.holds Try.pinned (OpenSpec.ofChange posetTopsSpec)

/-- ITS FALSE NEIGHBOUR: 'it returns false'. Refute it at one input. -/
def posetTopsWrong : ChangeSpec := { name := "posetTops", fn := fun _ => fun
  | [d] => { results := [.lit (.bool false)], args := [d] }
  | _ => none }
def PosetTopsWrongFalsely : Prop := posetTopsRow.holds Try.pinned (OpenSpec.ofChange posetTopsWrong)

/-- 'rosettelaw11.PosetMeets': WHATEVER THE INPUT: true; the input reads as it did. -/
def posetMeetsSpec : ChangeSpec := { name := "posetMeets", fn := fun _ => fun
  | [d1, d2, d3] => { results := [.lit (.bool true)], args := [d1, d2, d3] }
  | _ => none }
def posetMeetsRow : OpenClaim := { program := "ytckabmlilbkmbaa", sum := "6e6a2c9805c151e51d6f9322362fcc9dfec08af06868993a33fecd92246695d3", func := "rosette/rosettelaw11.PosetMeets", spec := "posetMeets", unfollowed := true, recurses := true, apart := false }
def PosetMeetsSaid : Prop := posetMeetsRow.holds Try.pinned (OpenSpec.ofChange posetMeetsSpec)

/-- ITS FALSE NEIGHBOUR: 'it returns false'. Refute it at one input. -/
def posetMeetsWrong : ChangeSpec := { name := "posetMeets", fn := fun _ => fun
  | [d1, d2, d3] => { results := [.lit (.bool false)], args := [d1, d2, d3] }
  | _ => none }
def PosetMeetsWrongFalsely : Prop := posetMeetsRow.holds Try.pinned (OpenSpec.ofChange posetMeetsWrong)

/-- 'rosettelaw11.PosetChain': WHATEVER THE INPUT: true; the input reads as it did. -/
def posetChainSpec : ChangeSpec := { name := "posetChain", fn := fun _ => fun
  | [d1, d2] => { results := [.lit (.bool true)], args := [d1, d2] }
  | _ => none }
def posetChainRow : OpenClaim := { program := "ytckabmlilbkmbaa", sum := "6e6a2c9805c151e51d6f9322362fcc9dfec08af06868993a33fecd92246695d3", func := "rosette/rosettelaw11.PosetChain", spec := "posetChain", unfollowed := true, recurses := true, apart := false }
def PosetChainSaid : Prop := posetChainRow.holds Try.pinned (OpenSpec.ofChange posetChainSpec)

/-- ITS FALSE NEIGHBOUR: 'it returns false'. Refute it at one input. -/
def posetChainWrong : ChangeSpec := { name := "posetChain", fn := fun _ => fun
  | [d1, d2] => { results := [.lit (.bool false)], args := [d1, d2] }
  | _ => none }
def PosetChainWrongFalsely : Prop := posetChainRow.holds Try.pinned (OpenSpec.ofChange posetChainWrong)

/- THE SECOND FORM. 'bulk': how many values and letters a reading holds, each counted each time it is reached (what is shared counts as often as it is met; a slice's spare places count too). A statement '..UptoSaid' is the law's where the arguments, and the package variables that the reading takes, are together of bulk at most 1048576: NARROWER than '..Said'. Prove '..Said' where nothing that the law and all that it calls make is longer than what came in: it says more and counts as full. Else prove '..UptoSaid'. A law counts once. -/
mutual
def uptoBulk {H : Type} : DataW H → Nat
  | .lit (.string bytes) => bytes.length + 1
  | .lit _ => 1
  | .nil => 1
  | .ptr d => uptoBulk d + 1
  | .slice elems spare => uptoBulkAll elems + uptoBulkAll spare + 1
  | .agg parts => uptoBulkAll parts + 1
  | .iface _ d => uptoBulk d + 1
  | .map entries => uptoBulkEntries entries + 1
  | .held _ => 1
def uptoBulkAll {H : Type} : List (DataW H) → Nat
  | [] => 0
  | d :: r => uptoBulk d + uptoBulkAll r
def uptoBulkEntries {H : Type} : List (Lit × DataW H) → Nat
  | [] => 0
  | x :: r => uptoBulkEntry x + uptoBulkEntries r
def uptoBulkEntry {H : Type} : Lit × DataW H → Nat
  | (.string bytes, d) => bytes.length + uptoBulk d + 1
  | (_, d) => uptoBulk d + 1
 end
def uptoSmall : (H : Type) → List (DataW H) → Bool := fun _ ds => decide (uptoBulkAll ds ≤ 1048576)
def OpenSpec.upto (s : _root_.Go.ChangeSpec) : _root_.Go.OpenSpec := { _root_.Go.OpenSpec.ofChange s with cond := some uptoSmall }

/-- 'rosettelaw11.PosetTells', WHERE WHAT IT READS IS OF BULK AT MOST 1048576: true; the input reads as it did. -/
def posetTellsUptoRow : OpenClaim := { program := "ytckabmlilbkmbaa", sum := "6e6a2c9805c151e51d6f9322362fcc9dfec08af06868993a33fecd92246695d3", func := "rosette/rosettelaw11.PosetTells", spec := "posetTells", unfollowed := true, recurses := true, apart := false, narrowed := true }
def PosetTellsUptoSaid : Prop := posetTellsUptoRow.holds Try.pinned (OpenSpec.upto posetTellsSpec)

/-- 'rosettelaw11.PosetOrders', WHERE WHAT IT READS IS OF BULK AT MOST 1048576: true; the input reads as it did. -/
def posetOrdersUptoRow : OpenClaim := { program := "ytckabmlilbkmbaa", sum := "6e6a2c9805c151e51d6f9322362fcc9dfec08af06868993a33fecd92246695d3", func := "rosette/rosettelaw11.PosetOrders", spec := "posetOrders", unfollowed := true, recurses := true, apart := false, narrowed := true }
def PosetOrdersUptoSaid : Prop := posetOrdersUptoRow.holds Try.pinned (OpenSpec.upto posetOrdersSpec)

/-- 'rosettelaw11.PosetEdges', WHERE WHAT IT READS IS OF BULK AT MOST 1048576: true; the input reads as it did. -/
def posetEdgesUptoRow : OpenClaim := { program := "ytckabmlilbkmbaa", sum := "6e6a2c9805c151e51d6f9322362fcc9dfec08af06868993a33fecd92246695d3", func := "rosette/rosettelaw11.PosetEdges", spec := "posetEdges", unfollowed := true, recurses := true, apart := false, narrowed := true }
def PosetEdgesUptoSaid : Prop := posetEdgesUptoRow.holds Try.pinned (OpenSpec.upto posetEdgesSpec)

/-- 'rosettelaw11.PosetTops', WHERE WHAT IT READS IS OF BULK AT MOST 1048576: true; the input reads as it did. -/
def posetTopsUptoRow : OpenClaim := { program := "ytckabmlilbkmbaa", sum := "6e6a2c9805c151e51d6f9322362fcc9dfec08af06868993a33fecd92246695d3", func := "rosette/rosettelaw11.PosetTops", spec := "posetTops", unfollowed := true, recurses := true, apart := false, narrowed := true }
def PosetTopsUptoSaid : Prop := posetTopsUptoRow.holds Try.pinned (OpenSpec.upto posetTopsSpec)

/-- 'rosettelaw11.PosetMeets', WHERE WHAT IT READS IS OF BULK AT MOST 1048576: true; the input reads as it did. -/
def posetMeetsUptoRow : OpenClaim := { program := "ytckabmlilbkmbaa", sum := "6e6a2c9805c151e51d6f9322362fcc9dfec08af06868993a33fecd92246695d3", func := "rosette/rosettelaw11.PosetMeets", spec := "posetMeets", unfollowed := true, recurses := true, apart := false, narrowed := true }
def PosetMeetsUptoSaid : Prop := posetMeetsUptoRow.holds Try.pinned (OpenSpec.upto posetMeetsSpec)

/-- 'rosettelaw11.PosetChain', WHERE WHAT IT READS IS OF BULK AT MOST 1048576: true; the input reads as it did. -/
def posetChainUptoRow : OpenClaim := { program := "ytckabmlilbkmbaa", sum := "6e6a2c9805c151e51d6f9322362fcc9dfec08af06868993a33fecd92246695d3", func := "rosette/rosettelaw11.PosetChain", spec := "posetChain", unfollowed := true, recurses := true, apart := false, narrowed := true }
def PosetChainUptoSaid : Prop := posetChainUptoRow.holds Try.pinned (OpenSpec.upto posetChainSpec)

end Rows
end Go.Proofs.Ytckabmlilbkmbaa
