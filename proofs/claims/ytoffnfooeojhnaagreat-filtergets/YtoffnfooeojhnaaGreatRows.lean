/-
  No cell of these rows narrows 'for every input' (looked for: loops, veiled, ifaces, maps, wideKeys, modest, calm, conditions, laid).
  DERIVED. THE GIVEN ROWS OF THIS SEAT. 6 by the template 'for every input the law returns true; each argument reads behind the call as it read before'; 0 by the template 'total and deterministic' (their statements: YtoffnfooeojhnaaGreatTotals.lean).
  GIVEN WITH THE SEED: the statements are not yours to turn. If you find one false, say at which input.
  Laid BY PROGRAM, IN A SANDBOX (cutbox-rows.mjs): the forced cells as the released guide's own fill.sh prints them over the translation 0c85c0b7ac06f430… (all of the seat's roots in one cut). By AI agents, Wed Nov 11 2026. No macro, syntax, notation, axiom, sorry.
-/
import Derived.Test.YtoffnfooeojhnaaGreatChecked
import GoSem.Claim
import GoSem.ClaimJoined
import GoSem.ClaimMapViews
import Derived.JoinedTies
import Derived.KernelRfl
namespace Go.Proofs.YtoffnfooeojhnaaGreat
/- THE CELL 'sum', in the pinned program and in every row, IS THE sha256 OF THE DUMP (.gsa) THAT YtoffnfooeojhnaaGreatProg.lean LOADS. Nothing in Lean hashes anything: it is a label: what it is worth is what the hold of that sum in a sandbox is worth. -/
noncomputable def Tryz.pinned : Pinned := { name := "ytoffnfooeojhnaagreat", sum := "0c85c0b7ac06f430c1c3b951f186749b3e482306ab346a7d47f9a5f8573c8649", checked := Tryz.checked }
namespace Rows
def none {H : Type} : Left H := { results := [], args := [] }

/-- 'rosettelaw08.FilterTells': WHATEVER THE INPUT: true; the input reads as it did. -/
def filterTellsSpec : ChangeSpec := { name := "filterTells", fn := fun _ => fun
  | [d1, d2, d3, d4] => { results := [.lit (.bool true)], args := [d1, d2, d3, d4] }
  | _ => none }
def filterTellsRow : OpenClaim := { program := "ytoffnfooeojhnaagreat", sum := "0c85c0b7ac06f430c1c3b951f186749b3e482306ab346a7d47f9a5f8573c8649", func := "rosette/rosettelaw08.FilterTells", spec := "filterTells", unfollowed := true, recurses := true, apart := false }
def FilterTellsSaid : Prop := filterTellsRow.holds Tryz.pinned (OpenSpec.ofChange filterTellsSpec)

/-- ITS FALSE NEIGHBOUR: 'it returns false'. Refute it at one input. -/
def filterTellsWrong : ChangeSpec := { name := "filterTells", fn := fun _ => fun
  | [d1, d2, d3, d4] => { results := [.lit (.bool false)], args := [d1, d2, d3, d4] }
  | _ => none }
def FilterTellsWrongFalsely : Prop := filterTellsRow.holds Tryz.pinned (OpenSpec.ofChange filterTellsWrong)

/-- 'rosettelaw08.FilterGets': WHATEVER THE INPUT: true; the input reads as it did. -/
def filterGetsSpec : ChangeSpec := { name := "filterGets", fn := fun _ => fun
  | [d1, d2] => { results := [.lit (.bool true)], args := [d1, d2] }
  | _ => none }
def filterGetsRow : OpenClaim := { program := "ytoffnfooeojhnaagreat", sum := "0c85c0b7ac06f430c1c3b951f186749b3e482306ab346a7d47f9a5f8573c8649", func := "rosette/rosettelaw08.FilterGets", spec := "filterGets", unfollowed := true, recurses := true, apart := false }
def FilterGetsSaid : Prop := filterGetsRow.holds Tryz.pinned (OpenSpec.ofChange filterGetsSpec)

/-- ITS FALSE NEIGHBOUR: 'it returns false'. Refute it at one input. -/
def filterGetsWrong : ChangeSpec := { name := "filterGets", fn := fun _ => fun
  | [d1, d2] => { results := [.lit (.bool false)], args := [d1, d2] }
  | _ => none }
def FilterGetsWrongFalsely : Prop := filterGetsRow.holds Tryz.pinned (OpenSpec.ofChange filterGetsWrong)

/-- 'rosettelaw09.TableSame': WHATEVER THE INPUT: true; the input reads as it did. -/
def tableSameSpec : ChangeSpec := { name := "tableSame", fn := fun _ => fun
  | [d1, d2, d3] => { results := [.lit (.bool true)], args := [d1, d2, d3] }
  | _ => none }
def tableSameRow : OpenClaim := { program := "ytoffnfooeojhnaagreat", sum := "0c85c0b7ac06f430c1c3b951f186749b3e482306ab346a7d47f9a5f8573c8649", func := "rosette/rosettelaw09.TableSame", spec := "tableSame", unfollowed := true, recurses := true, apart := false }
def TableSameSaid : Prop := tableSameRow.holds Tryz.pinned (OpenSpec.ofChange tableSameSpec)

/-- ITS FALSE NEIGHBOUR: 'it returns false'. Refute it at one input. -/
def tableSameWrong : ChangeSpec := { name := "tableSame", fn := fun _ => fun
  | [d1, d2, d3] => { results := [.lit (.bool false)], args := [d1, d2, d3] }
  | _ => none }
def TableSameWrongFalsely : Prop := tableSameRow.holds Tryz.pinned (OpenSpec.ofChange tableSameWrong)

/-- 'rosettelaw09.TableLess': WHATEVER THE INPUT: true; the input reads as it did. -/
def tableLessSpec : ChangeSpec := { name := "tableLess", fn := fun _ => fun
  | [d1, d2] => { results := [.lit (.bool true)], args := [d1, d2] }
  | _ => none }
def tableLessRow : OpenClaim := { program := "ytoffnfooeojhnaagreat", sum := "0c85c0b7ac06f430c1c3b951f186749b3e482306ab346a7d47f9a5f8573c8649", func := "rosette/rosettelaw09.TableLess", spec := "tableLess", unfollowed := true, recurses := true, apart := false }
def TableLessSaid : Prop := tableLessRow.holds Tryz.pinned (OpenSpec.ofChange tableLessSpec)

/-- ITS FALSE NEIGHBOUR: 'it returns false'. Refute it at one input. -/
def tableLessWrong : ChangeSpec := { name := "tableLess", fn := fun _ => fun
  | [d1, d2] => { results := [.lit (.bool false)], args := [d1, d2] }
  | _ => none }
def TableLessWrongFalsely : Prop := tableLessRow.holds Tryz.pinned (OpenSpec.ofChange tableLessWrong)

/-- 'rosettelaw09.TableLinks': WHATEVER THE INPUT: true; the input reads as it did. -/
def tableLinksSpec : ChangeSpec := { name := "tableLinks", fn := fun _ => fun
  | [d1, d2] => { results := [.lit (.bool true)], args := [d1, d2] }
  | _ => none }
def tableLinksRow : OpenClaim := { program := "ytoffnfooeojhnaagreat", sum := "0c85c0b7ac06f430c1c3b951f186749b3e482306ab346a7d47f9a5f8573c8649", func := "rosette/rosettelaw09.TableLinks", spec := "tableLinks", unfollowed := true, recurses := true, apart := false }
def TableLinksSaid : Prop := tableLinksRow.holds Tryz.pinned (OpenSpec.ofChange tableLinksSpec)

/-- ITS FALSE NEIGHBOUR: 'it returns false'. Refute it at one input. -/
def tableLinksWrong : ChangeSpec := { name := "tableLinks", fn := fun _ => fun
  | [d1, d2] => { results := [.lit (.bool false)], args := [d1, d2] }
  | _ => none }
def TableLinksWrongFalsely : Prop := tableLinksRow.holds Tryz.pinned (OpenSpec.ofChange tableLinksWrong)

/-- 'rosettelaw09.TableSwaps': WHATEVER THE INPUT: true; the input reads as it did. -/
def tableSwapsSpec : ChangeSpec := { name := "tableSwaps", fn := fun _ => fun
  | [d1, d2, d3] => { results := [.lit (.bool true)], args := [d1, d2, d3] }
  | _ => none }
def tableSwapsRow : OpenClaim := { program := "ytoffnfooeojhnaagreat", sum := "0c85c0b7ac06f430c1c3b951f186749b3e482306ab346a7d47f9a5f8573c8649", func := "rosette/rosettelaw09.TableSwaps", spec := "tableSwaps", unfollowed := true, recurses := true, apart := false }
def TableSwapsSaid : Prop := tableSwapsRow.holds Tryz.pinned (OpenSpec.ofChange tableSwapsSpec)

/-- ITS FALSE NEIGHBOUR: 'it returns false'. Refute it at one input. -/
def tableSwapsWrong : ChangeSpec := { name := "tableSwaps", fn := fun _ => fun
  | [d1, d2, d3] => { results := [.lit (.bool false)], args := [d1, d2, d3] }
  | _ => none }
def TableSwapsWrongFalsely : Prop := tableSwapsRow.holds Tryz.pinned (OpenSpec.ofChange tableSwapsWrong)

/- THE SECOND FORM. 'bulk': how many values and letters a reading holds, each counted each time it is reached (what is shared counts as often as it is met; a slice's spare places count too). A statement '..UptoSaid' is the law's where the arguments, and the package variables that the reading takes, are together of bulk at most 1048576: NARROWER than '..Said'. Prove '..Said' where nothing that the law and all that it calls make is longer than what came in: it says more and counts as full. Else prove '..UptoSaid'. A law counts once. -/
mutual
def uptoBulk {H : Type} : DataW H → Nat
  | .lit (.string bytes) => bytes.length + 1
  | .lit _ => 1
  | .nil => 1
  | .ptr d => uptoBulk d + 1
  | .slice elems spare => uptoBulkAll elems + uptoBulkAll spare + 1
  | .agg parts => uptoBulkAll parts + 1
  | .iface _ d => uptoBulk d + 1
  | .map entries => uptoBulkEntries entries + 1
  | .held _ => 1
def uptoBulkAll {H : Type} : List (DataW H) → Nat
  | [] => 0
  | d :: r => uptoBulk d + uptoBulkAll r
def uptoBulkEntries {H : Type} : List (Lit × DataW H) → Nat
  | [] => 0
  | x :: r => uptoBulkEntry x + uptoBulkEntries r
def uptoBulkEntry {H : Type} : Lit × DataW H → Nat
  | (.string bytes, d) => bytes.length + uptoBulk d + 1
  | (_, d) => uptoBulk d + 1
 end
def uptoSmall : (H : Type) → List (DataW H) → Bool := fun _ ds => decide (uptoBulkAll ds ≤ 1048576)
def OpenSpec.upto (s : _root_.Go.ChangeSpec) : _root_.Go.OpenSpec := { _root_.Go.OpenSpec.ofChange s with cond := some uptoSmall }

/-- 'rosettelaw08.FilterTells', WHERE WHAT IT READS IS OF BULK AT MOST 1048576: true; the input reads as it did. -/
def filterTellsUptoRow : OpenClaim := { program := "ytoffnfooeojhnaagreat", sum := "0c85c0b7ac06f430c1c3b951f186749b3e482306ab346a7d47f9a5f8573c8649", func := "rosette/rosettelaw08.FilterTells", spec := "filterTells", unfollowed := true, recurses := true, apart := false, narrowed := true }
def FilterTellsUptoSaid : Prop := filterTellsUptoRow.holds Tryz.pinned (OpenSpec.upto filterTellsSpec)

/-- 'rosettelaw08.FilterGets', WHERE WHAT IT READS IS OF BULK AT MOST 1048576: true; the input reads as it did. -/
def filterGetsUptoRow : OpenClaim := { program := "ytoffnfooeojhnaagreat", sum := "0c85c0b7ac06f430c1c3b951f186749b3e482306ab346a7d47f9a5f8573c8649", func := "rosette/rosettelaw08.FilterGets", spec := "filterGets", unfollowed := true, recurses := true, apart := false, narrowed := true }
def FilterGetsUptoSaid : Prop := filterGetsUptoRow.holds Tryz.pinned (OpenSpec.upto filterGetsSpec)

/-- 'rosettelaw09.TableSame', WHERE WHAT IT READS IS OF BULK AT MOST 1048576: true; the input reads as it did. -/
def tableSameUptoRow : OpenClaim := { program := "ytoffnfooeojhnaagreat", sum := "0c85c0b7ac06f430c1c3b951f186749b3e482306ab346a7d47f9a5f8573c8649", func := "rosette/rosettelaw09.TableSame", spec := "tableSame", unfollowed := true, recurses := true, apart := false, narrowed := true }
def TableSameUptoSaid : Prop := tableSameUptoRow.holds Tryz.pinned (OpenSpec.upto tableSameSpec)

/-- 'rosettelaw09.TableLess', WHERE WHAT IT READS IS OF BULK AT MOST 1048576: true; the input reads as it did. -/
def tableLessUptoRow : OpenClaim := { program := "ytoffnfooeojhnaagreat", sum := "0c85c0b7ac06f430c1c3b951f186749b3e482306ab346a7d47f9a5f8573c8649", func := "rosette/rosettelaw09.TableLess", spec := "tableLess", unfollowed := true, recurses := true, apart := false, narrowed := true }
def TableLessUptoSaid : Prop := tableLessUptoRow.holds Tryz.pinned (OpenSpec.upto tableLessSpec)

/-- 'rosettelaw09.TableLinks', WHERE WHAT IT READS IS OF BULK AT MOST 1048576: true; the input reads as it did. -/
def tableLinksUptoRow : OpenClaim := { program := "ytoffnfooeojhnaagreat", sum := "0c85c0b7ac06f430c1c3b951f186749b3e482306ab346a7d47f9a5f8573c8649", func := "rosette/rosettelaw09.TableLinks", spec := "tableLinks", unfollowed := true, recurses := true, apart := false, narrowed := true }
def TableLinksUptoSaid : Prop := tableLinksUptoRow.holds Tryz.pinned (OpenSpec.upto tableLinksSpec)

/-- 'rosettelaw09.TableSwaps', WHERE WHAT IT READS IS OF BULK AT MOST 1048576: true; the input reads as it did. -/
def tableSwapsUptoRow : OpenClaim := { program := "ytoffnfooeojhnaagreat", sum := "0c85c0b7ac06f430c1c3b951f186749b3e482306ab346a7d47f9a5f8573c8649", func := "rosette/rosettelaw09.TableSwaps", spec := "tableSwaps", unfollowed := true, recurses := true, apart := false, narrowed := true }
def TableSwapsUptoSaid : Prop := tableSwapsUptoRow.holds Tryz.pinned (OpenSpec.upto tableSwapsSpec)

end Rows
end Go.Proofs.YtoffnfooeojhnaaGreat
