/-
  No cell of these rows narrows 'for every input' (looked for: loops, veiled, ifaces, maps, wideKeys, modest, calm, conditions, laid).
  DERIVED. THE GIVEN ROWS OF THIS SEAT. 6 by the template 'for every input the law returns true; each argument reads behind the call as it read before'; 0 by the template 'total and deterministic' (their statements: YtlbendiggdmljaaGreatTotals.lean).
  GIVEN WITH THE SEED: the statements are not yours to turn. If you find one false, say at which input.
  Laid BY PROGRAM, IN A SANDBOX (cutbox-rows.mjs): the forced cells as the released guide's own fill.sh prints them over the translation f25017d1b4788058… (all of the seat's roots in one cut). By AI agents, Wed Nov 11 2026. No macro, syntax, notation, axiom, sorry.
-/
import Derived.Test.YtlbendiggdmljaaGreatChecked
import GoSem.Claim
import GoSem.ClaimJoined
import GoSem.ClaimMapViews
import Derived.JoinedTies
import Derived.KernelRfl
namespace Go.Proofs.YtlbendiggdmljaaGreat
/- THE CELL 'sum', in the pinned program and in every row, IS THE sha256 OF THE DUMP (.gsa) THAT YtlbendiggdmljaaGreatProg.lean LOADS. Nothing in Lean hashes anything: it is a label: what it is worth is what the hold of that sum in a sandbox is worth. -/
noncomputable def Tryz.pinned : Pinned := { name := "ytlbendiggdmljaagreat", sum := "f25017d1b47880582fdfa0dd825b3e7e5c520f94c4857476f6c053fc809b0b30", checked := Tryz.checked }
namespace Rows
def none {H : Type} : Left H := { results := [], args := [] }

/-- 'rosettelaw08.FilterTells': WHATEVER THE INPUT: true; the input reads as it did. -/
def filterTellsSpec : ChangeSpec := { name := "filterTells", fn := fun _ => fun
  | [d1, d2, d3, d4] => { results := [.lit (.bool true)], args := [d1, d2, d3, d4] }
  | _ => none }
def filterTellsRow : OpenClaim := { program := "ytlbendiggdmljaagreat", sum := "f25017d1b47880582fdfa0dd825b3e7e5c520f94c4857476f6c053fc809b0b30", func := "rosette/rosettelaw08.FilterTells", spec := "filterTells", unfollowed := true, recurses := true, apart := false }
def FilterTellsSaid : Prop := filterTellsRow.holds Tryz.pinned (OpenSpec.ofChange filterTellsSpec)

/-- ITS FALSE NEIGHBOUR: 'it returns false'. Refute it at one input. -/
def filterTellsWrong : ChangeSpec := { name := "filterTells", fn := fun _ => fun
  | [d1, d2, d3, d4] => { results := [.lit (.bool false)], args := [d1, d2, d3, d4] }
  | _ => none }
def FilterTellsWrongFalsely : Prop := filterTellsRow.holds Tryz.pinned (OpenSpec.ofChange filterTellsWrong)

/-- 'rosettelaw08.FilterGets': WHATEVER THE INPUT: true; the input reads as it did. -/
def filterGetsSpec : ChangeSpec := { name := "filterGets", fn := fun _ => fun
  | [d1, d2] => { results := [.lit (.bool true)], args := [d1, d2] }
  | _ => none }
def filterGetsRow : OpenClaim := { program := "ytlbendiggdmljaagreat", sum := "f25017d1b47880582fdfa0dd825b3e7e5c520f94c4857476f6c053fc809b0b30", func := "rosette/rosettelaw08.FilterGets", spec := "filterGets", unfollowed := true, recurses := true, apart := false }
def FilterGetsSaid : Prop := filterGetsRow.holds Tryz.pinned (OpenSpec.ofChange filterGetsSpec)

/-- ITS FALSE NEIGHBOUR: 'it returns false'. Refute it at one input. -/
def filterGetsWrong : ChangeSpec := { name := "filterGets", fn := fun _ => fun
  | [d1, d2] => { results := [.lit (.bool false)], args := [d1, d2] }
  | _ => none }
def FilterGetsWrongFalsely : Prop := filterGetsRow.holds Tryz.pinned (OpenSpec.ofChange filterGetsWrong)

/-- 'rosettelaw08.FilterNorms': WHATEVER THE INPUT: true; the input reads as it did. -/
def filterNormsSpec : ChangeSpec := { name := "filterNorms", fn := fun _ => fun
  | [d1, d2] => { results := [.lit (.bool true)], args := [d1, d2] }
  | _ => none }
def filterNormsRow : OpenClaim := { program := "ytlbendiggdmljaagreat", sum := "f25017d1b47880582fdfa0dd825b3e7e5c520f94c4857476f6c053fc809b0b30", func := "rosette/rosettelaw08.FilterNorms", spec := "filterNorms", unfollowed := true, recurses := true, apart := false }
def FilterNormsSaid : Prop := filterNormsRow.holds Tryz.pinned (OpenSpec.ofChange filterNormsSpec)

/-- ITS FALSE NEIGHBOUR: 'it returns false'. Refute it at one input. -/
def filterNormsWrong : ChangeSpec := { name := "filterNorms", fn := fun _ => fun
  | [d1, d2] => { results := [.lit (.bool false)], args := [d1, d2] }
  | _ => none }
def FilterNormsWrongFalsely : Prop := filterNormsRow.holds Tryz.pinned (OpenSpec.ofChange filterNormsWrong)

/-- 'rosettelaw08.FilterCovers': WHATEVER THE INPUT: true; the input reads as it did. -/
def filterCoversSpec : ChangeSpec := { name := "filterCovers", fn := fun _ => fun
  | [d1, d2, d3] => { results := [.lit (.bool true)], args := [d1, d2, d3] }
  | _ => none }
def filterCoversRow : OpenClaim := { program := "ytlbendiggdmljaagreat", sum := "f25017d1b47880582fdfa0dd825b3e7e5c520f94c4857476f6c053fc809b0b30", func := "rosette/rosettelaw08.FilterCovers", spec := "filterCovers", unfollowed := true, recurses := true, apart := false }
def FilterCoversSaid : Prop := filterCoversRow.holds Tryz.pinned (OpenSpec.ofChange filterCoversSpec)

/-- ITS FALSE NEIGHBOUR: 'it returns false'. Refute it at one input. -/
def filterCoversWrong : ChangeSpec := { name := "filterCovers", fn := fun _ => fun
  | [d1, d2, d3] => { results := [.lit (.bool false)], args := [d1, d2, d3] }
  | _ => none }
def FilterCoversWrongFalsely : Prop := filterCoversRow.holds Tryz.pinned (OpenSpec.ofChange filterCoversWrong)

/-- 'rosettelaw08.FilterMet': WHATEVER THE INPUT: true; the input reads as it did. -/
def filterMetSpec : ChangeSpec := { name := "filterMet", fn := fun _ => fun
  | [d] => { results := [.lit (.bool true)], args := [d] }
  | _ => none }
def filterMetRow : OpenClaim := { program := "ytlbendiggdmljaagreat", sum := "f25017d1b47880582fdfa0dd825b3e7e5c520f94c4857476f6c053fc809b0b30", func := "rosette/rosettelaw08.FilterMet", spec := "filterMet", unfollowed := true, recurses := true, apart := false }
def FilterMetSaid : Prop := filterMetRow.holds Tryz.pinned (OpenSpec.ofChange filterMetSpec)

/-- ITS FALSE NEIGHBOUR: 'it returns false'. Refute it at one input. -/
def filterMetWrong : ChangeSpec := { name := "filterMet", fn := fun _ => fun
  | [d] => { results := [.lit (.bool false)], args := [d] }
  | _ => none }
def FilterMetWrongFalsely : Prop := filterMetRow.holds Tryz.pinned (OpenSpec.ofChange filterMetWrong)

/-- 'rosettelaw08.FilterCrosses': WHATEVER THE INPUT: true; the input reads as it did. -/
def filterCrossesSpec : ChangeSpec := { name := "filterCrosses", fn := fun _ => fun
  | [d1, d2, d3] => { results := [.lit (.bool true)], args := [d1, d2, d3] }
  | _ => none }
def filterCrossesRow : OpenClaim := { program := "ytlbendiggdmljaagreat", sum := "f25017d1b47880582fdfa0dd825b3e7e5c520f94c4857476f6c053fc809b0b30", func := "rosette/rosettelaw08.FilterCrosses", spec := "filterCrosses", unfollowed := true, recurses := true, apart := false }
def FilterCrossesSaid : Prop := filterCrossesRow.holds Tryz.pinned (OpenSpec.ofChange filterCrossesSpec)

/-- ITS FALSE NEIGHBOUR: 'it returns false'. Refute it at one input. -/
def filterCrossesWrong : ChangeSpec := { name := "filterCrosses", fn := fun _ => fun
  | [d1, d2, d3] => { results := [.lit (.bool false)], args := [d1, d2, d3] }
  | _ => none }
def FilterCrossesWrongFalsely : Prop := filterCrossesRow.holds Tryz.pinned (OpenSpec.ofChange filterCrossesWrong)

/- THE SECOND FORM. 'bulk': how many values and letters a reading holds, each counted each time it is reached (what is shared counts as often as it is met; a slice's spare places count too). A statement '..UptoSaid' is the law's where the arguments, and the package variables that the reading takes, are together of bulk at most 1048576: NARROWER than '..Said'. Prove '..Said' where nothing that the law and all that it calls make is longer than what came in: it says more and counts as full. Else prove '..UptoSaid'. A law counts once. -/
mutual
def uptoBulk {H : Type} : DataW H → Nat
  | .lit (.string bytes) => bytes.length + 1
  | .lit _ => 1
  | .nil => 1
  | .ptr d => uptoBulk d + 1
  | .slice elems spare => uptoBulkAll elems + uptoBulkAll spare + 1
  | .agg parts => uptoBulkAll parts + 1
  | .iface _ d => uptoBulk d + 1
  | .map entries => uptoBulkEntries entries + 1
  | .held _ => 1
def uptoBulkAll {H : Type} : List (DataW H) → Nat
  | [] => 0
  | d :: r => uptoBulk d + uptoBulkAll r
def uptoBulkEntries {H : Type} : List (Lit × DataW H) → Nat
  | [] => 0
  | x :: r => uptoBulkEntry x + uptoBulkEntries r
def uptoBulkEntry {H : Type} : Lit × DataW H → Nat
  | (.string bytes, d) => bytes.length + uptoBulk d + 1
  | (_, d) => uptoBulk d + 1
 end
def uptoSmall : (H : Type) → List (DataW H) → Bool := fun _ ds => decide (uptoBulkAll ds ≤ 1048576)
def OpenSpec.upto (s : _root_.Go.ChangeSpec) : _root_.Go.OpenSpec := { _root_.Go.OpenSpec.ofChange s with cond := some uptoSmall }

/-- 'rosettelaw08.FilterTells', WHERE WHAT IT READS IS OF BULK AT MOST 1048576: true; the input reads as it did. -/
def filterTellsUptoRow : OpenClaim := { program := "ytlbendiggdmljaagreat", sum := "f25017d1b47880582fdfa0dd825b3e7e5c520f94c4857476f6c053fc809b0b30", func := "rosette/rosettelaw08.FilterTells", spec := "filterTells", unfollowed := true, recurses := true, apart := false, narrowed := true }
def FilterTellsUptoSaid : Prop := filterTellsUptoRow.holds Tryz.pinned (OpenSpec.upto filterTellsSpec)

/-- 'rosettelaw08.FilterGets', WHERE WHAT IT READS IS OF BULK AT MOST 1048576: true; the input reads as it did. -/
def filterGetsUptoRow : OpenClaim := { program := "ytlbendiggdmljaagreat", sum := "f25017d1b47880582fdfa0dd825b3e7e5c520f94c4857476f6c053fc809b0b30", func := "rosette/rosettelaw08.FilterGets", spec := "filterGets", unfollowed := true, recurses := true, apart := false, narrowed := true }
def FilterGetsUptoSaid : Prop := filterGetsUptoRow.holds Tryz.pinned (OpenSpec.upto filterGetsSpec)

/-- 'rosettelaw08.FilterNorms', WHERE WHAT IT READS IS OF BULK AT MOST 1048576: true; the input reads as it did. -/
def filterNormsUptoRow : OpenClaim := { program := "ytlbendiggdmljaagreat", sum := "f25017d1b47880582fdfa0dd825b3e7e5c520f94c4857476f6c053fc809b0b30", func := "rosette/rosettelaw08.FilterNorms", spec := "filterNorms", unfollowed := true, recurses := true, apart := false, narrowed := true }
def FilterNormsUptoSaid : Prop := filterNormsUptoRow.holds Tryz.pinned (OpenSpec.upto filterNormsSpec)

/-- 'rosettelaw08.FilterCovers', WHERE WHAT IT READS IS OF BULK AT MOST 1048576: true; the input reads as it did. -/
def filterCoversUptoRow : OpenClaim := { program := "ytlbendiggdmljaagreat", sum := "f25017d1b47880582fdfa0dd825b3e7e5c520f94c4857476f6c053fc809b0b30", func := "rosette/rosettelaw08.FilterCovers", spec := "filterCovers", unfollowed := true, recurses := true, apart := false, narrowed := true }
def FilterCoversUptoSaid : Prop := filterCoversUptoRow.holds Tryz.pinned (OpenSpec.upto filterCoversSpec)

/-- 'rosettelaw08.FilterMet', WHERE WHAT IT READS IS OF BULK AT MOST 1048576: true; the input reads as it did. -/
def filterMetUptoRow : OpenClaim := { program := "ytlbendiggdmljaagreat", sum := "f25017d1b47880582fdfa0dd825b3e7e5c520f94c4857476f6c053fc809b0b30", func := "rosette/rosettelaw08.FilterMet", spec := "filterMet", unfollowed := true, recurses := true, apart := false, narrowed := true }
def FilterMetUptoSaid : Prop := filterMetUptoRow.holds Tryz.pinned (OpenSpec.upto filterMetSpec)

/-- 'rosettelaw08.FilterCrosses', WHERE WHAT IT READS IS OF BULK AT MOST 1048576: true; the input reads as it did. -/
def filterCrossesUptoRow : OpenClaim := { program := "ytlbendiggdmljaagreat", sum := "f25017d1b47880582fdfa0dd825b3e7e5c520f94c4857476f6c053fc809b0b30", func := "rosette/rosettelaw08.FilterCrosses", spec := "filterCrosses", unfollowed := true, recurses := true, apart := false, narrowed := true }
def FilterCrossesUptoSaid : Prop := filterCrossesUptoRow.holds Tryz.pinned (OpenSpec.upto filterCrossesSpec)

end Rows
end Go.Proofs.YtlbendiggdmljaaGreat
