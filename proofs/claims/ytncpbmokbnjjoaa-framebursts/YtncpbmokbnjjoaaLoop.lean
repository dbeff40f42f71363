/- A range over a function, at the wide fence: the statement, and one round: of no package. -/
import Derived.Test.YtncpbmokbnjjoaaMem
import Derived.RangeFuncNested
import Derived.RangeFuncLeaves
import Derived.Shelf.Abstract
namespace Go.Proofs.Ytncpbmokbnjjoaa
open Go.RowKit
/-- The loop's record. -/
def lrec (fn : FuncId) (a : Act) (ps : Array Tmp) (assign body : Code) (D : Nat) (st : LoopState) (pe : Option Code) : Loop :=
  { state := st, pending := pe, fn := fn, tmps := a.tmps, params := ps, assign := assign, body := body, defers := D }
/-- How the iterator leaves the record: untouched, or with the jump that a round has left. -/
def jumpState (j : Option Code) : LoopState := if j.isNone then .ready else .done
theorem range_law {P : Program} {m : Nat} {g : Operand} {ps : Array Tmp} {assign body : Code} {Q : Exit → Act → World → Prop} {a : Act} {w : World} {gf : Nat} {lb : Array Value} (D : Nat) (hD : w.heap.size = D)
    (hg : a.eval g = .func (.func gf) #[] lb) (eg : ∀ args w, (callFunc gf args).run P w = .ok (.enter gf args) w)
    (h : ∀ fn (R : LoopState → Option Code → Loop), R = lrec fn a ps assign body D → ∀ W1, W1 = (w.alloc (.deferred (some []))).alloc (.loop (R .ready none)) → CallsIn Fence.wide (m - 1) P gf (#[.func (.yield (D + 1)) #[] #[]] ++ lb) W1 fun e W =>
      (∃ v, e = .returned v) ∧ ∃ jump, W.heap[D + 1]? = some (.loop (R (jumpState jump) jump)) ∧
        ∀ W', W' = W.putObj (D + 1) (.loop (R .exhausted jump)) →
          match jump with
          | none => Q .normal { a with defers := { target := .collected D, args := #[] } :: a.defers } W'
          | some c => c.wpIn Fence.wide m P Q { a with defers := { target := .collected D, args := #[] } :: a.defers } W') :
    (Code.rangeFunc g ps assign body).wpIn Fence.wide m P Q a w := by
  subst hD
  refine wpIn_rangeFunc fun fn _ => ?_
  obtain ⟨W1, hW1⟩ : ∃ W1, W1 = (w.alloc (.deferred (some []))).alloc (.loop (lrec fn a ps assign body w.heap.size .ready none)) := ⟨_, rfl⟩
  refine ⟨w.heap.size + 1, [{ target := .collected w.heap.size, args := #[] }], W1, { target := .fn (.func gf) lb, args := #[.func (.yield (w.heap.size + 1)) #[] #[]] }, W1, gf,
    #[.func (.yield (w.heap.size + 1)) #[] #[]] ++ lb, W1, ?_, ?_, fun _ _ => trivial, ?_, fun h => ?_, ?_⟩
  · rw [hW1]; exact run_enterLoop_outer _ _ _ _ _
  · simp only [resolve, hg]
    simp [go_sem]
  · simp [invoke, go_sem, eg]
  · cases h
  · refine (h fn _ rfl W1 hW1).mono ?_
    rintro e W ⟨⟨v, rfl⟩, jump, hl, hk⟩
    have he := run_endLoop (P := P) hl (by unfold lrec jumpState; split <;> simp)
    exact ⟨jump, _, he, hk _ rfl⟩
/-- One round: the record lies ready; the assignment to the loop's variable; the body. -/
theorem round_law {P : Program} {m l : Nat} {r : Loop} {args : Array Value} {W : World} {R : Ending → World → Prop} (hl : W.heap[l]? = some (.loop r)) (hr : r.state = .ready) {tmps : Array Value} {ps : Array Tmp} {assign body : Code}
    (ht : r.tmps = tmps) (hp : r.params = ps) (ha : r.assign = assign) (hb : r.body = body) (hps : args.size = ps.size)
    (h : assign.wpIn (Fence.wide.inRound l) m P (Exit.then (fun a₁ w₁ => w₁.heap[l]? = some (.loop r) ∧ ∀ w₂, w₂ = w₁.putObj l (.loop { r with state := .busy }) → body.wpIn (Fence.wide.inRound l) m P (roundPost P l R) a₁ w₂) (fun _ _ _ => False))
      { tmps := (ps.zip args).foldl (fun t (p, v) => t.setIfInBounds p v) tmps, defers := [] } W) : YieldAt Fence.wide m P l args W R := by
  subst ht hp ha hb
  refine ⟨r.fn, (r.params.zip args).foldl (fun t (p, v) => t.setIfInBounds p v) r.tmps, r.assign, r.body, run_yield (P := P) hl hps, roundIn_of_wpIn trivial (wpIn_mono h ?_)⟩
  rintro e a₁ w₁ hp
  cases e with
  | normal => exact ⟨_, run_beginRound hp.1 hr, hp.2 _ rfl⟩
  | ret => exact hp.elim
  | exit id => exact hp.elim
  | goto t => exact hp.elim
  | panic ch => exact hp.elim
  | outgrown => exact hp.elim
theorem put_same {w : World} {l : Nat} {o o' : Obj} (h : w.heap[l]? = some o) : (w.putObj l o').heap[l]? = some o' := World.putObj_heap_same (Array.getElem?_eq_some_iff.1 h).1
theorem put_other {w : World} {i l : Nat} {o o' : Obj} (h : w.heap[i]? = some o) (hne : i ≠ l) : (w.putObj l o').heap[i]? = some o := (World.putObj_heap_other hne).trans h
end Go.Proofs.Ytncpbmokbnjjoaa
