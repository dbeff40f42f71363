/- A region that draws its order, whose operations only read, and whose callees read, draw, and lay blocks of their own: walked once, in the order of the text, what is still to come behind a structure, so that no unifier looks into it. -/
import Derived.Test.YtcgmbgfbhdimeaaMem
import Derived.Shelf.SlSortCmp.QuietGrown
namespace Go.Proofs.Ytcgmbgfbhdimeaa
open Go.RowKit Go.Sort
structure HQ (P : Program) (ops : Array Oper) (C : World → Prop) (Q : Act → Prop) (l : List Oper) (a : Act) : Prop where
  out : wpQuiet P ops C Q l a
theorem hq_nil {P : Program} {ops : Array Oper} {C : World → Prop} {Q : Act → Prop} {a : Act} (h : Q a) : HQ P ops C Q [] a := ⟨wpQuiet_nil h⟩
theorem hq_step {P : Program} {ops : Array Oper} {C : World → Prop} {Q : Act → Prop} {a : Act} {o : Oper} {rest : List Oper}
    (h : ∀ K : Act → Prop, (∀ a, HQ P ops C Q rest a → K a) → if Region.wanted o (yielded ops a.tmps) then o.quiet P a C K else K (a.put o.dst undef)) : HQ P ops C Q (o :: rest) a :=
  ⟨wpQuiet_step fun K hK => h K fun a k => hK a k.out⟩
theorem hq_region {P : Program} {id : Nat} {Q : Exit → Act → World → Prop} {a : Act} {w : World} {l : List Oper} (hm : P.follows .mixedOrders = true) (hB : Region.lexB .any l.toArray = true)
    (h : HQ P l.toArray (fun w' => ∃ p : GrownBy, w' = grow (w.drewN p.n) p.os) (fun a' => ∀ w', (∃ p : GrownBy, w' = grow (w.drewN p.n) p.os) → Q .normal a' w') l a) : (Code.region id l.toArray true).wp P Q a w :=
  wp_region_quiet_grown hm hB h.out
theorem mixedT : Try.prog.follows .mixedOrders = true := by kernel_rfl
end Go.Proofs.Ytcgmbgfbhdimeaa
