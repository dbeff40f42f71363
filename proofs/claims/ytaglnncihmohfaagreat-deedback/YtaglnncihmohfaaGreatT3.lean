/- Contracts of the program and of the document (TRL, TRight, TFew, TArgs), each used further on. -/
import Derived.Test.YtaglnncihmohfaaGreatM1
import Derived.Test.YtaglnncihmohfaaGreatD2
import Derived.Test.YtaglnncihmohfaaGreatT1
import Derived.Test.YtaglnncihmohfaaGreatT2
set_option maxRecDepth 100000
set_option maxHeartbeats 4000000
namespace Go.Proofs.YtaglnncihmohfaaGreat
open Go.RowKit Go.Sort Spans Tb
end Go.Proofs.YtaglnncihmohfaaGreat
namespace Go.Proofs.YtaglnncihmohfaaGreat
open Go.RowKit Go.Sort Spans Tb
def PBs (es : List Ex) : Prop := ∀ x ∈ es, PBd x.f
end Go.Proofs.YtaglnncihmohfaaGreat
namespace Go.Proofs.YtaglnncihmohfaaGreat
open Go.RowKit Go.Sort Spans Tb
def shortP (p : Pr) : Prop := p.n.length <= 100 /\ p.t.length <= 100
instance (p : Pr) : Decidable (shortP p) := inferInstanceAs (Decidable (_ /\ _))
def total (xs : List Ex) : Nat := (xs.map Ex.n).sum
def fewE (xs : List Ex) : Bool := decide (∀ x ∈ xs, ∀ p ∈ x.f, shortP p) && (decide (xs.length <= 80) && decide (total xs <= 300))
def SumIs (m : Nat) (t : Nat) (s : Int) : Prop := m <= 80 -> s = (t : Int)
end Go.Proofs.YtaglnncihmohfaaGreat
namespace Go.Proofs.YtaglnncihmohfaaGreat
open Go.RowKit Go.ChangeShapes Go.WideShapes Go.Deep Go.Joins Spans Tb
section
variable {H : Type} {enc : TypeId × Value -> H} {w : World} {base : Nat} {spare : Nat -> Bool} {held : Bool}
theorem field_at {P : Program} {fs : Array Field} {cs : List Value} {xs : List (DataW H × List MemPlace)} {n i o m : Nat} {t : TypeId} {f : Field}
  (hfs : ∀ (i : Nat) (f : Field), fs[i]? = some f -> DataW.trod enc P w base spare held n f.type ((cs.drop f.offset).take (P.cellsOf f.type)) = xs[i]?) (hl : xs.length = fs.size)
  (hf : fs[i]? = some f) (ht : f.type = t /\ f.offset = o /\ P.cellsOf t = m) : ∃ y, xs[i]? = some y /\ DataW.trod enc P w base spare held n t ((cs.drop o).take m) = some y := by
 obtain ⟨rfl, rfl, rfl⟩ := ht
 have hi : i < xs.length := by rw [hl]; exact (Array.getElem?_eq_some_iff.1 hf).1
 exact ⟨xs[i], List.getElem?_eq_getElem hi, (hfs i f hf).trans (List.getElem?_eq_getElem hi)⟩
theorem weights_all {P : Program} {e : TypeId} {R : Nat} : ∀ {l : List (DataW H)}, (∀ n ∈ DataW.weightsAll P e l, n <= R) -> ∀ d ∈ l, ∀ n ∈ d.weights P e, n <= R
 | [], _, d, hd, _, _ => by cases hd
 | a :: r, h, d, hd, n, hn => by
  simp only [DataW.weightsAll, List.mem_append] at h
  rcases List.mem_cons.1 hd with rfl | hd
  ·exact h n (.inl hn)
  ·exact weights_all (fun m hm => h m (.inr hm)) d hd n hn
theorem weights_slice {P : Program} {t e : TypeId} {R : Nat} {elems spare : List (DataW H)} (ht : P.underlying t = some (.slice e)) (hw : ∀ n ∈ (DataW.slice elems spare).weights P t, n <= R) :
  (elems.length + spare.length) * P.bytesOf e <= R /\ ∀ d ∈ elems, ∀ n ∈ d.weights P e, n <= R := by
 simp only [DataW.weights, ht] at hw
 exact ⟨hw _ (List.mem_cons_self ..), weights_all fun n hn => hw n (List.mem_cons_of_mem _ (List.mem_append_left _ hn))⟩
theorem weights_struct {P : Program} {t : TypeId} {R : Nat} {parts : List (DataW H)} {fs : Array Field} (ht : P.underlying t = some (.struct fs)) (hw : ∀ n ∈ (DataW.agg parts).weights P t, n <= R)
  {i : Nat} {f : Field} {d : DataW H} (hf : fs[i]? = some f) (hd : parts[i]? = some d) : ∀ n ∈ d.weights P f.type, n <= R := fun n hn => by
 simp only [DataW.weights, ht] at hw
 exact hw n (DataW.weights_mem_each (j := i) (by rw [List.getElem?_map]; simp [hf]) hd n hn)
theorem reach_num : reachBytes = 140737488351232 := rfl
theorem bounds_of {i : Int} (h : (Lit.int .i64 i).wf = true) : -9223372036854775808 <= i /\ i <= 9223372036854775807 := bounds_i64 h
theorem open_flt {fuel : Nat} {v : Value} {x : DataW H × List MemPlace} (h : DataW.trod enc Tryz.prog w base spare held fuel 22 [v] = some x) (hw : ∀ n ∈ x.1.weights Tryz.prog 22, n <= reachBytes) :
  ∃ A n c f, v = .slice A n c /\ f.length = n /\ n <= c /\ c <= maxLen /\ n <= 2600000000000 /\ RdQ w A f /\ PBx f := by
 have hv : ∃ A n c, v = .slice A n c /\ n <= 2600000000000 := by
  rcases open_slice Tryz.underlying22 h with ⟨hcs, _⟩ | ⟨a, l, c, m, n, D, Pl, hcs, _, hl, hm, hmm, hx1, hx⟩
  ·exact ⟨none, 0, 0, by simpa using hcs, by omega⟩
  ·refine ⟨some a, l, c, by simpa using hcs, ?_⟩
   subst hx1
   have := (weights_slice Tryz.underlying22 hw).1
   rw [show Tryz.prog.bytesOf 35 = 56 from by kernel_rfl, reach_num] at this
   simp at this
   omega
 obtain ⟨A, n, c, rfl, hn⟩ := hv
 have TR : ∀ {a b : Nat}, a = b -> a = b := id
 obtain ⟨es, h1, h2, h3, h4, h5⟩ := open_preds_of (enc := enc) (P := Tryz.prog) (w := w) (base := base) (spare := spare) (held := held) (d := x.1) (p := x.2) Tryz.underlying22 Tryz.underlying35 (by kernel_rfl) ⟨rfl, rfl, by kernel_rfl⟩ ⟨rfl, rfl, by kernel_rfl⟩ ⟨rfl, rfl, by kernel_rfl⟩ Tryz.underlying9 Tryz.underlying3 Tryz.underlying33 ⟨rfl, rfl, by kernel_rfl⟩ ⟨rfl, rfl, by kernel_rfl⟩ ⟨rfl, rfl, by kernel_rfl⟩ Tryz.underlying3 Tryz.underlying3 Tryz.underlying9 ⟨fuel, h⟩
 exact ⟨A, n, c, es, rfl, h1, h2, h3, hn, h4, fun p hp => by
  obtain ⟨q1, q2, q3⟩ := h5 p hp
  rw [maxLen_num] at q1 q2
  exact ⟨q1, q2, bounds_of q3⟩⟩
end
end Go.Proofs.YtaglnncihmohfaaGreat
