/- Arguments, opened: a row of predicates. -/
import Derived.Test.YtcgmbgfbhdimeaaSRow
import Derived.Test.YtcgmbgfbhdimeaaVArgs
namespace Go.Proofs.Ytcgmbgfbhdimeaa
open Go.RowKit Go.ChangeShapes Go.WideShapes Go.Deep Go.Joins Spans
section
variable {H : Type} {enc : TypeId × Value → H} {P : Program} {w : World} {base : Nat} {spare : Nat → Bool} {held : Bool}
theorem plain_atQ {a : Addr} {v : Value} (h : w.cell? a = some v) : ∃ b off, a = ⟨b, off, none⟩ ∧ b < w.heap.size := by
  obtain ⟨b, off, spot⟩ := a
  have hs : spot = none := by simpa using World.cell?_spot h
  subst hs
  exact ⟨b, off, rfl, World.block_lt_of_cell? w _ h⟩
theorem open_preds_of {t e tn tp tv t0 t1 t2 : TypeId} {fn fp fv f0 f1 f2 : Field} {A : Option Addr} {len cap : Nat} {d : DataW H} {p : List MemPlace} (ht : P.underlying t = some (.slice e)) (he : P.underlying e = some (.struct #[fn, fp, fv])) (hc : P.cellsOf e = 5)
    (hfn : fn.type = tn ∧ fn.offset = 0 ∧ P.cellsOf tn = 1) (hfp : fp.type = tp ∧ fp.offset = 1 ∧ P.cellsOf tp = 1) (hfv : fv.type = tv ∧ fv.offset = 2 ∧ P.cellsOf tv = 3) (hn : P.underlying tn = some .string) (hp : P.underlying tp = some (.int .i64)) (hv : P.underlying tv = some (.struct #[f0, f1, f2]))
    (hf0 : f0.type = t0 ∧ f0.offset = 0 ∧ P.cellsOf t0 = 1) (hf1 : f1.type = t1 ∧ f1.offset = 1 ∧ P.cellsOf t1 = 1) (hf2 : f2.type = t2 ∧ f2.offset = 2 ∧ P.cellsOf t2 = 1)
    (h0 : P.underlying t0 = some (.int .i64)) (h1 : P.underlying t1 = some (.int .i64)) (h2 : P.underlying t2 = some .string)
    (h : DataW.Trod enc P w base spare held t (.slice A len cap) d p) :
    ∃ es : List Pr, es.length = len ∧ len ≤ cap ∧ cap ≤ maxLen ∧ RdQ w A es ∧ ∀ a ∈ es, a.n.length ≤ maxLen ∧ a.t.length ≤ maxLen ∧ (Lit.int .i64 a.i).wf = true := by
  obtain ⟨fuel, hf⟩ := h
  rcases open_slice ht hf with ⟨hcs, _⟩ | ⟨a, l, c, m, n, D, Pl, hcs, _, hl, hm, hmm, _, hx⟩
  · simp [Value.cells] at hcs
    obtain ⟨rfl, rfl, rfl⟩ := hcs
    exact ⟨[], rfl, by omega, by simp, .inl rfl, by simp⟩
  · simp [Value.cells] at hcs
    obtain ⟨rfl, rfl, rfl⟩ := hcs
    have hlm : len ≤ m := by rw [hmm]; split <;> omega
    have each : ∀ i, i < len → ∃ z : Pr, (w.cell? ((a.add (i * 5)).add 0) = some (.string ⟨z.n.toArray⟩) ∧ w.cell? ((a.add (i * 5)).add 1) = some (.int .i64 z.o) ∧ w.cell? ((a.add (i * 5)).add 2) = some (.int .i64 z.k) ∧ w.cell? ((a.add (i * 5)).add 3) = some (.int .i64 z.i) ∧ w.cell? ((a.add (i * 5)).add 4) = some (.string ⟨z.t.toArray⟩)) ∧ z.n.length ≤ maxLen ∧ z.t.length ≤ maxLen ∧ (Lit.int .i64 z.i).wf = true := by
      intro i hi
      obtain ⟨cs, k1, k2⟩ := hx i (by omega)
      rw [hc] at k1
      obtain ⟨_, hlen, hat⟩ := World.cells?_some k1
      obtain ⟨xs, n', _, _, _, hxl, hfs⟩ := DataW.trod_struct he k2
      match cs, hlen with
      | [c0, c1, c2, c3, c4], _ =>
        have g0 := hfs 0 fn rfl
        have g1 := hfs 1 fp rfl
        have g2 := hfs 2 fv rfl
        obtain ⟨e0, o0, s0⟩ := hfn
        obtain ⟨e1, o1, s1⟩ := hfp
        obtain ⟨e2, o2, s2⟩ := hfv
        rw [e0, o0, s0] at g0
        rw [e1, o1, s1] at g1
        rw [e2, o2, s2] at g2
        have hxs0 : xs[0]? = some (xs[0]'(by rw [hxl]; simp)) := List.getElem?_eq_getElem _
        have hxs1 : xs[1]? = some (xs[1]'(by rw [hxl]; simp)) := List.getElem?_eq_getElem _
        have hxs2 : xs[2]? = some (xs[2]'(by rw [hxl]; simp)) := List.getElem?_eq_getElem _
        rw [hxs0] at g0
        rw [hxs1] at g1
        rw [hxs2] at g2
        obtain ⟨⟨⟨zn⟩⟩, q0, _, r0⟩ := DataW.trod_string hn g0
        obtain ⟨zo, q1, _, _⟩ := DataW.trod_int hp g1
        obtain ⟨ys, n'', _, _, _, hyl, hfs2⟩ := DataW.trod_struct hv g2
        have j0 := hfs2 0 f0 rfl
        have j1 := hfs2 1 f1 rfl
        have j2 := hfs2 2 f2 rfl
        obtain ⟨e0, o0, s0⟩ := hf0
        obtain ⟨e1, o1, s1⟩ := hf1
        obtain ⟨e2, o2, s2⟩ := hf2
        rw [e0, o0, s0] at j0
        rw [e1, o1, s1] at j1
        rw [e2, o2, s2] at j2
        have hys0 : ys[0]? = some (ys[0]'(by rw [hyl]; simp)) := List.getElem?_eq_getElem _
        have hys1 : ys[1]? = some (ys[1]'(by rw [hyl]; simp)) := List.getElem?_eq_getElem _
        have hys2 : ys[2]? = some (ys[2]'(by rw [hyl]; simp)) := List.getElem?_eq_getElem _
        rw [hys0] at j0
        rw [hys1] at j1
        rw [hys2] at j2
        obtain ⟨zk, p0, _, _⟩ := DataW.trod_int h0 j0
        obtain ⟨zi, p1, _, wi⟩ := DataW.trod_int h1 j1
        obtain ⟨⟨⟨zt⟩⟩, p2, _, r2⟩ := DataW.trod_string h2 j2
        have a0 := hat 0 (by omega)
        have a1 := hat 1 (by omega)
        have a2 := hat 2 (by omega)
        have a3 := hat 3 (by omega)
        have a4 := hat 4 (by omega)
        simp at q0 q1 p0 p1 p2
        subst q0; subst q1; subst p0; subst p1; subst p2
        exact ⟨⟨zn, zo, zk, zi, zt⟩, ⟨a0, a1, a2, a3, a4⟩, r0, r2, wi⟩
    obtain ⟨Z, hZ⟩ := choose_lt each
    refine ⟨(List.range len).map Z, by simp, hl, hm, ?_, ?_⟩
    · by_cases h0 : len = 0
      · exact .inl (by simp [h0])
      · obtain ⟨b, off, rfl, hb⟩ := plain_atQ (a := a) (by simpa [Addr.add] using (hZ 0 (by omega)).1.1)
        refine .inr ⟨b, off, rfl, hb, fun i hi j v hv => ?_⟩
        have hi' : i < len := by simpa using hi
        have := (hZ i hi').1
        rw [add_lit, add_lit, add_lit, add_lit, add_lit, add_lit] at this
        obtain ⟨q0, q1, q2, q3, q4⟩ := this
        have hz : ((List.range len).map Z)[i] = Z i := by simp
        rw [hz] at hv
        have hj : j < 5 := by have := (List.getElem?_eq_some_iff.1 hv).1; simpa [layP, cellsP] using this
        show w.cell? ⟨b, off + i * 5 + j, none⟩ = some v
        match j, hj with
        | 0, _ => rw [← hv]; exact q0
        | 1, _ => rw [← hv]; exact q1
        | 2, _ => rw [← hv]; exact q2
        | 3, _ => rw [← hv]; exact q3
        | 4, _ => rw [← hv]; exact q4
    · intro z hz
      simp only [List.mem_map, List.mem_range] at hz
      obtain ⟨i, hi, rfl⟩ := hz
      exact (hZ i hi).2
end
end Go.Proofs.Ytcgmbgfbhdimeaa
