/-
  No cell of these rows narrows 'for every input' (looked for: loops, veiled, ifaces, maps, wideKeys, modest, calm, conditions, laid).
  DERIVED. THE GIVEN ROWS OF THIS SEAT. 3 by the template 'for every input the law returns true; each argument reads behind the call as it read before'; 0 by the template 'total and deterministic' (their statements: YtckabmlilbkmbaaGreatTotals.lean).
  GIVEN WITH THE SEED: the statements are not yours to turn. If you find one false, say at which input.
  Laid BY PROGRAM, IN A SANDBOX (cutbox-rows.mjs): the forced cells as the released guide's own fill.sh prints them over the translation 13a98f49dd792c07… (all of the seat's roots in one cut). By AI agents, Wed Nov 11 2026. No macro, syntax, notation, axiom, sorry.
-/
import Derived.Test.YtckabmlilbkmbaaGreatChecked
import GoSem.Claim
import GoSem.ClaimJoined
import GoSem.ClaimMapViews
import Derived.JoinedTies
import Derived.KernelRfl
namespace Go.Proofs.YtckabmlilbkmbaaGreat
/- THE CELL 'sum', in the pinned program and in every row, IS THE sha256 OF THE DUMP (.gsa) THAT YtckabmlilbkmbaaGreatProg.lean LOADS. Nothing in Lean hashes anything: it is a label: what it is worth is what the hold of that sum in a sandbox is worth. -/
noncomputable def Tryz.pinned : Pinned := { name := "ytckabmlilbkmbaagreat", sum := "13a98f49dd792c07f42981789b8230c3f2f4f0fa2ee545e5a297c6d2aee48ef2", checked := Tryz.checked }
namespace Rows
def none {H : Type} : Left H := { results := [], args := [] }

/-- 'rosettelaw10.DeedDoes': WHATEVER THE INPUT: true; the input reads as it did. -/
def deedDoesSpec : ChangeSpec := { name := "deedDoes", fn := fun _ => fun
  | [d1, d2, d3] => { results := [.lit (.bool true)], args := [d1, d2, d3] }
  | _ => none }
def deedDoesRow : OpenClaim := { program := "ytckabmlilbkmbaagreat", sum := "13a98f49dd792c07f42981789b8230c3f2f4f0fa2ee545e5a297c6d2aee48ef2", func := "rosette/rosettelaw10.DeedDoes", spec := "deedDoes", inPlace := ["slices.overlaps[rosette/api.Link]", "slices.overlaps[rosette/api.Entry]"], unfollowed := true, recurses := true, apart := false }
def DeedDoesSaid : Prop := deedDoesRow.holds Tryz.pinned (OpenSpec.ofChange deedDoesSpec)

/-- ITS FALSE NEIGHBOUR: 'it returns false'. Refute it at one input. -/
def deedDoesWrong : ChangeSpec := { name := "deedDoes", fn := fun _ => fun
  | [d1, d2, d3] => { results := [.lit (.bool false)], args := [d1, d2, d3] }
  | _ => none }
def DeedDoesWrongFalsely : Prop := deedDoesRow.holds Tryz.pinned (OpenSpec.ofChange deedDoesWrong)

/-- 'rosettelaw10.DeedFolds': WHATEVER THE INPUT: true; the input reads as it did. -/
def deedFoldsSpec : ChangeSpec := { name := "deedFolds", fn := fun _ => fun
  | [d1, d2] => { results := [.lit (.bool true)], args := [d1, d2] }
  | _ => none }
def deedFoldsRow : OpenClaim := { program := "ytckabmlilbkmbaagreat", sum := "13a98f49dd792c07f42981789b8230c3f2f4f0fa2ee545e5a297c6d2aee48ef2", func := "rosette/rosettelaw10.DeedFolds", spec := "deedFolds", inPlace := ["slices.overlaps[rosette/api.Link]", "slices.overlaps[rosette/api.Entry]"], unfollowed := true, recurses := true, apart := false }
def DeedFoldsSaid : Prop := deedFoldsRow.holds Tryz.pinned (OpenSpec.ofChange deedFoldsSpec)

/-- ITS FALSE NEIGHBOUR: 'it returns false'. Refute it at one input. -/
def deedFoldsWrong : ChangeSpec := { name := "deedFolds", fn := fun _ => fun
  | [d1, d2] => { results := [.lit (.bool false)], args := [d1, d2] }
  | _ => none }
def DeedFoldsWrongFalsely : Prop := deedFoldsRow.holds Tryz.pinned (OpenSpec.ofChange deedFoldsWrong)

/-- 'rosettelaw10.DeedGets': WHATEVER THE INPUT: true; the input reads as it did. -/
def deedGetsSpec : ChangeSpec := { name := "deedGets", fn := fun _ => fun
  | [d1, d2] => { results := [.lit (.bool true)], args := [d1, d2] }
  | _ => none }
def deedGetsRow : OpenClaim := { program := "ytckabmlilbkmbaagreat", sum := "13a98f49dd792c07f42981789b8230c3f2f4f0fa2ee545e5a297c6d2aee48ef2", func := "rosette/rosettelaw10.DeedGets", spec := "deedGets", inPlace := ["slices.overlaps[rosette/api.Link]", "slices.overlaps[rosette/api.Entry]"], unfollowed := true, recurses := true, apart := false }
def DeedGetsSaid : Prop := deedGetsRow.holds Tryz.pinned (OpenSpec.ofChange deedGetsSpec)

/-- ITS FALSE NEIGHBOUR: 'it returns false'. Refute it at one input. -/
def deedGetsWrong : ChangeSpec := { name := "deedGets", fn := fun _ => fun
  | [d1, d2] => { results := [.lit (.bool false)], args := [d1, d2] }
  | _ => none }
def DeedGetsWrongFalsely : Prop := deedGetsRow.holds Tryz.pinned (OpenSpec.ofChange deedGetsWrong)

/- THE SECOND FORM. 'bulk': how many values and letters a reading holds, each counted each time it is reached (what is shared counts as often as it is met; a slice's spare places count too). A statement '..UptoSaid' is the law's where the arguments, and the package variables that the reading takes, are together of bulk at most 1048576: NARROWER than '..Said'. Prove '..Said' where nothing that the law and all that it calls make is longer than what came in: it says more and counts as full. Else prove '..UptoSaid'. A law counts once. -/
mutual
def uptoBulk {H : Type} : DataW H → Nat
  | .lit (.string bytes) => bytes.length + 1
  | .lit _ => 1
  | .nil => 1
  | .ptr d => uptoBulk d + 1
  | .slice elems spare => uptoBulkAll elems + uptoBulkAll spare + 1
  | .agg parts => uptoBulkAll parts + 1
  | .iface _ d => uptoBulk d + 1
  | .map entries => uptoBulkEntries entries + 1
  | .held _ => 1
def uptoBulkAll {H : Type} : List (DataW H) → Nat
  | [] => 0
  | d :: r => uptoBulk d + uptoBulkAll r
def uptoBulkEntries {H : Type} : List (Lit × DataW H) → Nat
  | [] => 0
  | x :: r => uptoBulkEntry x + uptoBulkEntries r
def uptoBulkEntry {H : Type} : Lit × DataW H → Nat
  | (.string bytes, d) => bytes.length + uptoBulk d + 1
  | (_, d) => uptoBulk d + 1
 end
def uptoSmall : (H : Type) → List (DataW H) → Bool := fun _ ds => decide (uptoBulkAll ds ≤ 1048576)
def OpenSpec.upto (s : _root_.Go.ChangeSpec) : _root_.Go.OpenSpec := { _root_.Go.OpenSpec.ofChange s with cond := some uptoSmall }

/-- 'rosettelaw10.DeedDoes', WHERE WHAT IT READS IS OF BULK AT MOST 1048576: true; the input reads as it did. -/
def deedDoesUptoRow : OpenClaim := { program := "ytckabmlilbkmbaagreat", sum := "13a98f49dd792c07f42981789b8230c3f2f4f0fa2ee545e5a297c6d2aee48ef2", func := "rosette/rosettelaw10.DeedDoes", spec := "deedDoes", inPlace := ["slices.overlaps[rosette/api.Link]", "slices.overlaps[rosette/api.Entry]"], unfollowed := true, recurses := true, apart := false, narrowed := true }
def DeedDoesUptoSaid : Prop := deedDoesUptoRow.holds Tryz.pinned (OpenSpec.upto deedDoesSpec)

/-- 'rosettelaw10.DeedFolds', WHERE WHAT IT READS IS OF BULK AT MOST 1048576: true; the input reads as it did. -/
def deedFoldsUptoRow : OpenClaim := { program := "ytckabmlilbkmbaagreat", sum := "13a98f49dd792c07f42981789b8230c3f2f4f0fa2ee545e5a297c6d2aee48ef2", func := "rosette/rosettelaw10.DeedFolds", spec := "deedFolds", inPlace := ["slices.overlaps[rosette/api.Link]", "slices.overlaps[rosette/api.Entry]"], unfollowed := true, recurses := true, apart := false, narrowed := true }
def DeedFoldsUptoSaid : Prop := deedFoldsUptoRow.holds Tryz.pinned (OpenSpec.upto deedFoldsSpec)

/-- 'rosettelaw10.DeedGets', WHERE WHAT IT READS IS OF BULK AT MOST 1048576: true; the input reads as it did. -/
def deedGetsUptoRow : OpenClaim := { program := "ytckabmlilbkmbaagreat", sum := "13a98f49dd792c07f42981789b8230c3f2f4f0fa2ee545e5a297c6d2aee48ef2", func := "rosette/rosettelaw10.DeedGets", spec := "deedGets", inPlace := ["slices.overlaps[rosette/api.Link]", "slices.overlaps[rosette/api.Entry]"], unfollowed := true, recurses := true, apart := false, narrowed := true }
def DeedGetsUptoSaid : Prop := deedGetsUptoRow.holds Tryz.pinned (OpenSpec.upto deedGetsSpec)

end Rows
end Go.Proofs.YtckabmlilbkmbaaGreat
