/- Contracts of the program and of the document (TCopy, TSame, TCps), each used further on. -/
import Derived.Test.YtckabmlilbkmbaaA4
import Derived.Test.YtckabmlilbkmbaaT1
namespace Go.Proofs.Ytckabmlilbkmbaa
open Go.RowKit Go.Sort Spans Tb
abbrev exV (x : Ex) : Value := .agg #[.int .i64 x.id, .int .i64 x.fr, .slice x.A x.n x.c]
/-- What tells an entry in new memory. -/
def GivesE (w : World) (e : En) (en : Ending) (w' : World) : Prop := ∃ y : Ex, en = .returned (exV y) ∧ y.en = e ∧ FltO w' w.heap.size y ∧ Below w.heap.size w w'
theorem cells3 {w : World} {g : Nat} {t : TypeId} {a b c : Value} (hB : Blk w g t #[a, b, c]) :
    w.cell? ⟨g, 0, none⟩ = some a ∧ w.cell? ⟨g, 1, none⟩ = some b ∧ w.cell? ⟨g, 2, none⟩ = some c := ⟨hB.cell 0, hB.cell 1, hB.cell 2⟩
end Go.Proofs.Ytckabmlilbkmbaa
namespace Go.Proofs.Ytckabmlilbkmbaa
open Go.RowKit Go.Sort Spans Tb
theorem map_snoc {α β : Type} (g : α → β) {l : List α} {k : Nat} (h : k < l.length) : (l.take (k + 1)).map g = (l.take k).map g ++ [g l[k]] := by
  rw [List.take_succ_eq_append_getElem h, List.map_append]; rfl
/-- Filters that are not too long for a walk. -/
def Short (xs : List Ex) : Prop := ∀ x ∈ xs, x.n ≤ 100000
/-- A state that is not too long for a walk. -/
structure Sx.Few (s : Sx) : Prop where
  n : s.n ≤ 100000
  n1 : s.n1 ≤ 100000
  n2 : s.n2 ≤ 100000
  av : Short s.av
  su : Short s.su
end Go.Proofs.Ytckabmlilbkmbaa
namespace Go.Proofs.Ytckabmlilbkmbaa
open Go.RowKit Go.Sort Spans Tb
section
variable {P : Program} {md : Region.Mode} {ops : Array Oper} {Q : Exit → Act → World → Prop} {S : World → Prop}
/-- Two operations may come up. -/
theorem wpAnyH_pr {i j : Nat} {oi oj : Oper} {fuel : Nat} {listed : Array Bool} {a : Act} {w : World} (hr : Region.ready md ops listed = [i, j]) (hi : ops.toList[i]? = some oi) (hj : ops.toList[j]? = some oj)
    (hw : Region.wanted oi (yielded ops a.tmps) = true) (hw' : Region.wanted oj (yielded ops a.tmps) = true)
    (h : ∀ K : Act → World → Prop, Hid (∀ a w, S w → wpAnyH P md ops Q S fuel (listed.setIfInBounds i true) a w → K a w) → Oper.wp P oi a w K Q)
    (h' : ∀ K : Act → World → Prop, Hid (∀ a w, S w → wpAnyH P md ops Q S fuel (listed.setIfInBounds j true) a w → K a w) → Oper.wp P oj a w K Q) : wpAnyH P md ops Q S (fuel + 1) listed a w := by
  refine wpAnyH_ready hr (by simp) (AllReadyH.cons (by simpa using hi) (fun K hK => ?_) (AllReadyH.cons (by simpa using hj) (fun K hK => ?_) AllReadyH.nil))
  · rw [if_pos hw]
    exact h K (fun a w hS hW => hK.out a w hS (fun _ => hW))
  · rw [if_pos hw']
    exact h' K (fun a w hS hW => hK.out a w hS (fun _ => hW))
end
/-- What tells entries in new memory. -/
def GivesEs (w : World) (es : List En) (e : Ending) (w' : World) : Prop := ∃ (ys : List Ex) (B : Option Addr) (m d : Nat), e = .returned (.slice B m d) ∧ ys.length = m ∧ m ≤ d ∧ ys.map Ex.en = es ∧ OwnEn w' w.heap.size (.slice B m d) ys ∧ Below w.heap.size w w'
end Go.Proofs.Ytckabmlilbkmbaa
