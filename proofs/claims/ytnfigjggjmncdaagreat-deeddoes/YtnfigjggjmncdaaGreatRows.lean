/-
  No cell of these rows narrows 'for every input' (looked for: loops, veiled, ifaces, maps, wideKeys, modest, calm, conditions, laid).
  DERIVED. THE GIVEN ROWS OF THIS SEAT. 2 by the template 'for every input the law returns true; each argument reads behind the call as it read before'; 0 by the template 'total and deterministic' (their statements: YtnfigjggjmncdaaGreatTotals.lean).
  GIVEN WITH THE SEED: the statements are not yours to turn. If you find one false, say at which input.
  Laid BY PROGRAM, IN A SANDBOX (cutbox-rows.mjs): the forced cells as the released guide's own fill.sh prints them over the translation 454971ab761741b7… (all of the seat's roots in one cut). By AI agents, Wed Nov 11 2026. No macro, syntax, notation, axiom, sorry.
-/
import Derived.Test.YtnfigjggjmncdaaGreatChecked
import GoSem.Claim
import GoSem.ClaimJoined
import GoSem.ClaimMapViews
import Derived.JoinedTies
import Derived.KernelRfl
namespace Go.Proofs.YtnfigjggjmncdaaGreat
/- THE CELL 'sum', in the pinned program and in every row, IS THE sha256 OF THE DUMP (.gsa) THAT YtnfigjggjmncdaaGreatProg.lean LOADS. Nothing in Lean hashes anything: it is a label: what it is worth is what the hold of that sum in a sandbox is worth. -/
noncomputable def Tryz.pinned : Pinned := { name := "ytnfigjggjmncdaagreat", sum := "454971ab761741b703f26841a4aa4a77edea2260c38a2f0ba17c69062c21bc47", checked := Tryz.checked }
namespace Rows
def none {H : Type} : Left H := { results := [], args := [] }

/-- 'rosettelaw10.DeedDoes': WHATEVER THE INPUT: true; the input reads as it did. -/
def deedDoesSpec : ChangeSpec := { name := "deedDoes", fn := fun _ => fun
  | [d1, d2, d3] => { results := [.lit (.bool true)], args := [d1, d2, d3] }
  | _ => none }
def deedDoesRow : OpenClaim := { program := "ytnfigjggjmncdaagreat", sum := "454971ab761741b703f26841a4aa4a77edea2260c38a2f0ba17c69062c21bc47", func := "rosette/rosettelaw10.DeedDoes", spec := "deedDoes", inPlace := ["slices.overlaps[rosette/api.Link]", "slices.overlaps[rosette/api.Entry]"], unfollowed := true, recurses := true, apart := false }
def DeedDoesSaid : Prop := deedDoesRow.holds Tryz.pinned (OpenSpec.ofChange deedDoesSpec)

/-- ITS FALSE NEIGHBOUR: 'it returns false'. Refute it at one input. -/
def deedDoesWrong : ChangeSpec := { name := "deedDoes", fn := fun _ => fun
  | [d1, d2, d3] => { results := [.lit (.bool false)], args := [d1, d2, d3] }
  | _ => none }
def DeedDoesWrongFalsely : Prop := deedDoesRow.holds Tryz.pinned (OpenSpec.ofChange deedDoesWrong)

/-- 'rosettelaw10.DeedFolds': WHATEVER THE INPUT: true; the input reads as it did. -/
def deedFoldsSpec : ChangeSpec := { name := "deedFolds", fn := fun _ => fun
  | [d1, d2] => { results := [.lit (.bool true)], args := [d1, d2] }
  | _ => none }
def deedFoldsRow : OpenClaim := { program := "ytnfigjggjmncdaagreat", sum := "454971ab761741b703f26841a4aa4a77edea2260c38a2f0ba17c69062c21bc47", func := "rosette/rosettelaw10.DeedFolds", spec := "deedFolds", inPlace := ["slices.overlaps[rosette/api.Link]", "slices.overlaps[rosette/api.Entry]"], unfollowed := true, recurses := true, apart := false }
def DeedFoldsSaid : Prop := deedFoldsRow.holds Tryz.pinned (OpenSpec.ofChange deedFoldsSpec)

/-- ITS FALSE NEIGHBOUR: 'it returns false'. Refute it at one input. -/
def deedFoldsWrong : ChangeSpec := { name := "deedFolds", fn := fun _ => fun
  | [d1, d2] => { results := [.lit (.bool false)], args := [d1, d2] }
  | _ => none }
def DeedFoldsWrongFalsely : Prop := deedFoldsRow.holds Tryz.pinned (OpenSpec.ofChange deedFoldsWrong)

/- THE SECOND FORM. 'bulk': how many values and letters a reading holds, each counted each time it is reached (what is shared counts as often as it is met; a slice's spare places count too). A statement '..UptoSaid' is the law's where the arguments, and the package variables that the reading takes, are together of bulk at most 1048576: NARROWER than '..Said'. Prove '..Said' where nothing that the law and all that it calls make is longer than what came in: it says more and counts as full. Else prove '..UptoSaid'. A law counts once. -/
mutual
def uptoBulk {H : Type} : DataW H → Nat
  | .lit (.string bytes) => bytes.length + 1
  | .lit _ => 1
  | .nil => 1
  | .ptr d => uptoBulk d + 1
  | .slice elems spare => uptoBulkAll elems + uptoBulkAll spare + 1
  | .agg parts => uptoBulkAll parts + 1
  | .iface _ d => uptoBulk d + 1
  | .map entries => uptoBulkEntries entries + 1
  | .held _ => 1
def uptoBulkAll {H : Type} : List (DataW H) → Nat
  | [] => 0
  | d :: r => uptoBulk d + uptoBulkAll r
def uptoBulkEntries {H : Type} : List (Lit × DataW H) → Nat
  | [] => 0
  | x :: r => uptoBulkEntry x + uptoBulkEntries r
def uptoBulkEntry {H : Type} : Lit × DataW H → Nat
  | (.string bytes, d) => bytes.length + uptoBulk d + 1
  | (_, d) => uptoBulk d + 1
 end
def uptoSmall : (H : Type) → List (DataW H) → Bool := fun _ ds => decide (uptoBulkAll ds ≤ 1048576)
def OpenSpec.upto (s : _root_.Go.ChangeSpec) : _root_.Go.OpenSpec := { _root_.Go.OpenSpec.ofChange s with cond := some uptoSmall }

/-- 'rosettelaw10.DeedDoes', WHERE WHAT IT READS IS OF BULK AT MOST 1048576: true; the input reads as it did. -/
def deedDoesUptoRow : OpenClaim := { program := "ytnfigjggjmncdaagreat", sum := "454971ab761741b703f26841a4aa4a77edea2260c38a2f0ba17c69062c21bc47", func := "rosette/rosettelaw10.DeedDoes", spec := "deedDoes", inPlace := ["slices.overlaps[rosette/api.Link]", "slices.overlaps[rosette/api.Entry]"], unfollowed := true, recurses := true, apart := false, narrowed := true }
def DeedDoesUptoSaid : Prop := deedDoesUptoRow.holds Tryz.pinned (OpenSpec.upto deedDoesSpec)

/-- 'rosettelaw10.DeedFolds', WHERE WHAT IT READS IS OF BULK AT MOST 1048576: true; the input reads as it did. -/
def deedFoldsUptoRow : OpenClaim := { program := "ytnfigjggjmncdaagreat", sum := "454971ab761741b703f26841a4aa4a77edea2260c38a2f0ba17c69062c21bc47", func := "rosette/rosettelaw10.DeedFolds", spec := "deedFolds", inPlace := ["slices.overlaps[rosette/api.Link]", "slices.overlaps[rosette/api.Entry]"], unfollowed := true, recurses := true, apart := false, narrowed := true }
def DeedFoldsUptoSaid : Prop := deedFoldsUptoRow.holds Tryz.pinned (OpenSpec.upto deedFoldsSpec)

end Rows
end Go.Proofs.YtnfigjggjmncdaaGreat
