/- Contracts of the program and of the document (VArgs, SArgs, GArgs, TArgs), each used further on. -/
import Derived.Lib.SmallJoins
import Derived.Test.YtnfigjggjmncdaaP1
import Derived.Test.YtnfigjggjmncdaaP2
import Derived.Test.YtnfigjggjmncdaaP3
namespace Go.Proofs.Ytnfigjggjmncdaa
open Go.RowKit Go.ChangeShapes Go.WideShapes Go.Deep Go.Joins
section
variable {H : Type} {enc : TypeId × Value → H} {P : Program} {w : World} {base : Nat} {spare : Nat → Bool} {held : Bool}
end
end Go.Proofs.Ytnfigjggjmncdaa
namespace Go.Proofs.Ytnfigjggjmncdaa
open Go.RowKit Go.ChangeShapes Go.WideShapes Go.Deep Go.Joins Spans
section
variable {H : Type} {enc : TypeId × Value → H} {P : Program} {w : World} {base : Nat} {spare : Nat → Bool} {held : Bool}
theorem plain_atQ {a : Addr} {v : Value} (h : w.cell? a = some v) : ∃ b off, a = ⟨b, off, none⟩ ∧ b < w.heap.size := by
  obtain ⟨b, off, spot⟩ := a
  have hs : spot = none := by simpa using World.cell?_spot h
  subst hs
  exact ⟨b, off, rfl, World.block_lt_of_cell? w _ h⟩
theorem open_preds_of {t e tn tp tv t0 t1 t2 : TypeId} {fn fp fv f0 f1 f2 : Field} {A : Option Addr} {len cap : Nat} {d : DataW H} {p : List MemPlace} (ht : P.underlying t = some (.slice e)) (he : P.underlying e = some (.struct #[fn, fp, fv])) (hc : P.cellsOf e = 5)
    (hfn : fn.type = tn ∧ fn.offset = 0 ∧ P.cellsOf tn = 1) (hfp : fp.type = tp ∧ fp.offset = 1 ∧ P.cellsOf tp = 1) (hfv : fv.type = tv ∧ fv.offset = 2 ∧ P.cellsOf tv = 3) (hn : P.underlying tn = some .string) (hp : P.underlying tp = some (.int .i64)) (hv : P.underlying tv = some (.struct #[f0, f1, f2]))
    (hf0 : f0.type = t0 ∧ f0.offset = 0 ∧ P.cellsOf t0 = 1) (hf1 : f1.type = t1 ∧ f1.offset = 1 ∧ P.cellsOf t1 = 1) (hf2 : f2.type = t2 ∧ f2.offset = 2 ∧ P.cellsOf t2 = 1)
    (h0 : P.underlying t0 = some (.int .i64)) (h1 : P.underlying t1 = some (.int .i64)) (h2 : P.underlying t2 = some .string)
    (h : DataW.Trod enc P w base spare held t (.slice A len cap) d p) :
    ∃ es : List Pr, es.length = len ∧ len ≤ cap ∧ cap ≤ maxLen ∧ RdQ w A es ∧ ∀ a ∈ es, a.n.length ≤ maxLen ∧ a.t.length ≤ maxLen ∧ (Lit.int .i64 a.i).wf = true := by
  obtain ⟨fuel, hf⟩ := h
  rcases open_slice ht hf with ⟨hcs, _⟩ | ⟨a, l, c, m, n, D, Pl, hcs, _, hl, hm, hmm, _, hx⟩
  · simp [Value.cells] at hcs
    obtain ⟨rfl, rfl, rfl⟩ := hcs
    exact ⟨[], rfl, by omega, by simp, .inl rfl, by simp⟩
  · simp [Value.cells] at hcs
    obtain ⟨rfl, rfl, rfl⟩ := hcs
    have hlm : len ≤ m := by rw [hmm]; split <;> omega
    have each : ∀ i, i < len → ∃ z : Pr, (w.cell? ((a.add (i * 5)).add 0) = some (.string ⟨z.n.toArray⟩) ∧ w.cell? ((a.add (i * 5)).add 1) = some (.int .i64 z.o) ∧ w.cell? ((a.add (i * 5)).add 2) = some (.int .i64 z.k) ∧ w.cell? ((a.add (i * 5)).add 3) = some (.int .i64 z.i) ∧ w.cell? ((a.add (i * 5)).add 4) = some (.string ⟨z.t.toArray⟩)) ∧ z.n.length ≤ maxLen ∧ z.t.length ≤ maxLen ∧ (Lit.int .i64 z.i).wf = true := by
      intro i hi
      obtain ⟨cs, k1, k2⟩ := hx i (by omega)
      rw [hc] at k1
      obtain ⟨_, hlen, hat⟩ := World.cells?_some k1
      obtain ⟨xs, n', _, _, _, hxl, hfs⟩ := DataW.trod_struct he k2
      match cs, hlen with
      | [c0, c1, c2, c3, c4], _ =>
        have g0 := hfs 0 fn rfl
        have g1 := hfs 1 fp rfl
        have g2 := hfs 2 fv rfl
        obtain ⟨e0, o0, s0⟩ := hfn
        obtain ⟨e1, o1, s1⟩ := hfp
        obtain ⟨e2, o2, s2⟩ := hfv
        rw [e0, o0, s0] at g0
        rw [e1, o1, s1] at g1
        rw [e2, o2, s2] at g2
        have hxs0 : xs[0]? = some (xs[0]'(by rw [hxl]; simp)) := List.getElem?_eq_getElem _
        have hxs1 : xs[1]? = some (xs[1]'(by rw [hxl]; simp)) := List.getElem?_eq_getElem _
        have hxs2 : xs[2]? = some (xs[2]'(by rw [hxl]; simp)) := List.getElem?_eq_getElem _
        rw [hxs0] at g0
        rw [hxs1] at g1
        rw [hxs2] at g2
        obtain ⟨⟨⟨zn⟩⟩, q0, _, r0⟩ := DataW.trod_string hn g0
        obtain ⟨zo, q1, _, _⟩ := DataW.trod_int hp g1
        obtain ⟨ys, n'', _, _, _, hyl, hfs2⟩ := DataW.trod_struct hv g2
        have j0 := hfs2 0 f0 rfl
        have j1 := hfs2 1 f1 rfl
        have j2 := hfs2 2 f2 rfl
        obtain ⟨e0, o0, s0⟩ := hf0
        obtain ⟨e1, o1, s1⟩ := hf1
        obtain ⟨e2, o2, s2⟩ := hf2
        rw [e0, o0, s0] at j0
        rw [e1, o1, s1] at j1
        rw [e2, o2, s2] at j2
        have hys0 : ys[0]? = some (ys[0]'(by rw [hyl]; simp)) := List.getElem?_eq_getElem _
        have hys1 : ys[1]? = some (ys[1]'(by rw [hyl]; simp)) := List.getElem?_eq_getElem _
        have hys2 : ys[2]? = some (ys[2]'(by rw [hyl]; simp)) := List.getElem?_eq_getElem _
        rw [hys0] at j0
        rw [hys1] at j1
        rw [hys2] at j2
        obtain ⟨zk, p0, _, _⟩ := DataW.trod_int h0 j0
        obtain ⟨zi, p1, _, wi⟩ := DataW.trod_int h1 j1
        obtain ⟨⟨⟨zt⟩⟩, p2, _, r2⟩ := DataW.trod_string h2 j2
        have a0 := hat 0 (by omega)
        have a1 := hat 1 (by omega)
        have a2 := hat 2 (by omega)
        have a3 := hat 3 (by omega)
        have a4 := hat 4 (by omega)
        simp at q0 q1 p0 p1 p2
        subst q0; subst q1; subst p0; subst p1; subst p2
        exact ⟨⟨zn, zo, zk, zi, zt⟩, ⟨a0, a1, a2, a3, a4⟩, r0, r2, wi⟩
    obtain ⟨Z, hZ⟩ := choose_lt each
    refine ⟨(List.range len).map Z, by simp, hl, hm, ?_, ?_⟩
    · by_cases h0 : len = 0
      · exact .inl (by simp [h0])
      · obtain ⟨b, off, rfl, hb⟩ := plain_atQ (a := a) (by simpa [Addr.add] using (hZ 0 (by omega)).1.1)
        refine .inr ⟨b, off, rfl, hb, fun i hi j v hv => ?_⟩
        have hi' : i < len := by simpa using hi
        have := (hZ i hi').1
        rw [add_lit, add_lit, add_lit, add_lit, add_lit, add_lit] at this
        obtain ⟨q0, q1, q2, q3, q4⟩ := this
        have hz : ((List.range len).map Z)[i] = Z i := by simp
        rw [hz] at hv
        have hj : j < 5 := by have := (List.getElem?_eq_some_iff.1 hv).1; simpa [layP, cellsP] using this
        show w.cell? ⟨b, off + i * 5 + j, none⟩ = some v
        match j, hj with
        | 0, _ => rw [← hv]; exact q0
        | 1, _ => rw [← hv]; exact q1
        | 2, _ => rw [← hv]; exact q2
        | 3, _ => rw [← hv]; exact q3
        | 4, _ => rw [← hv]; exact q4
    · intro z hz
      simp only [List.mem_map, List.mem_range] at hz
      obtain ⟨i, hi, rfl⟩ := hz
      exact (hZ i hi).2
end
end Go.Proofs.Ytnfigjggjmncdaa
namespace Go.Proofs.Ytnfigjggjmncdaa
open Go.RowKit Go.ChangeShapes Go.WideShapes Go.Deep Ev
section
variable {H : Type} {enc : TypeId × Value → H} {P : Program} {w : World} {base : Nat} {spare : Nat → Bool} {held : Bool}
theorem open_attrs_w {t e tn tv t0 t1 t2 : TypeId} {fn fv f0 f1 f2 : Field} {A : Option Addr} {len cap : Nat} {d : DataW H} {p : List MemPlace} (ht : P.underlying t = some (.slice e)) (he : P.underlying e = some (.struct #[fn, fv])) (hc : P.cellsOf e = 4)
    (hfn : fn.type = tn ∧ fn.offset = 0 ∧ P.cellsOf tn = 1) (hfv : fv.type = tv ∧ fv.offset = 1 ∧ P.cellsOf tv = 3) (hn : P.underlying tn = some .string) (hv : P.underlying tv = some (.struct #[f0, f1, f2]))
    (hf0 : f0.type = t0 ∧ f0.offset = 0 ∧ P.cellsOf t0 = 1) (hf1 : f1.type = t1 ∧ f1.offset = 1 ∧ P.cellsOf t1 = 1) (hf2 : f2.type = t2 ∧ f2.offset = 2 ∧ P.cellsOf t2 = 1)
    (h0 : P.underlying t0 = some (.int .i64)) (h1 : P.underlying t1 = some (.int .i64)) (h2 : P.underlying t2 = some .string)
    (h : DataW.Trod enc P w base spare held t (.slice A len cap) d p) :
    ∃ es : List At, es.length = len ∧ len ≤ cap ∧ cap ≤ maxLen ∧ RdA w A es ∧ ∀ a ∈ es, a.n.length ≤ maxLen ∧ a.t.length ≤ maxLen ∧ (Lit.int .i64 a.i).wf = true := by
  obtain ⟨fuel, hf⟩ := h
  rcases open_slice ht hf with ⟨hcs, _⟩ | ⟨a, l, c, m, n, D, Pl, hcs, _, hl, hm, hmm, _, hx⟩
  · simp [Value.cells] at hcs
    obtain ⟨rfl, rfl, rfl⟩ := hcs
    exact ⟨[], rfl, by omega, by simp, .inl rfl, by simp⟩
  · simp [Value.cells] at hcs
    obtain ⟨rfl, rfl, rfl⟩ := hcs
    have hlm : len ≤ m := by rw [hmm]; split <;> omega
    have each : ∀ i, i < len → ∃ z : At, (w.cell? ((a.add (i * 4)).add 0) = some (.string ⟨z.n.toArray⟩) ∧ w.cell? ((a.add (i * 4)).add 1) = some (.int .i64 z.k) ∧ w.cell? ((a.add (i * 4)).add 2) = some (.int .i64 z.i) ∧ w.cell? ((a.add (i * 4)).add 3) = some (.string ⟨z.t.toArray⟩)) ∧ z.n.length ≤ maxLen ∧ z.t.length ≤ maxLen ∧ (Lit.int .i64 z.i).wf = true := fun i hi => by
      obtain ⟨cs, k1, k2⟩ := hx i (by omega)
      rw [hc] at k1
      obtain ⟨_, hlen, hat⟩ := World.cells?_some k1
      obtain ⟨xs, n', _, _, _, hxl, hfs⟩ := DataW.trod_struct he k2
      match cs, hlen with
      | [c0, c1, c2, c3], _ =>
        have g0 := hfs 0 fn rfl
        have g1 := hfs 1 fv rfl
        obtain ⟨e0, o0, s0⟩ := hfn
        obtain ⟨e1, o1, s1⟩ := hfv
        rw [e0, o0, s0] at g0
        rw [e1, o1, s1] at g1
        have hxs0 : xs[0]? = some (xs[0]'(by rw [hxl]; simp)) := List.getElem?_eq_getElem _
        have hxs1 : xs[1]? = some (xs[1]'(by rw [hxl]; simp)) := List.getElem?_eq_getElem _
        rw [hxs0] at g0
        rw [hxs1] at g1
        obtain ⟨⟨⟨zn⟩⟩, q0, _, r0⟩ := DataW.trod_string hn g0
        obtain ⟨ys, n'', _, _, _, hyl, hfs2⟩ := DataW.trod_struct hv g1
        have j0 := hfs2 0 f0 rfl
        have j1 := hfs2 1 f1 rfl
        have j2 := hfs2 2 f2 rfl
        obtain ⟨e0, o0, s0⟩ := hf0
        obtain ⟨e1, o1, s1⟩ := hf1
        obtain ⟨e2, o2, s2⟩ := hf2
        rw [e0, o0, s0] at j0
        rw [e1, o1, s1] at j1
        rw [e2, o2, s2] at j2
        have hys0 : ys[0]? = some (ys[0]'(by rw [hyl]; simp)) := List.getElem?_eq_getElem _
        have hys1 : ys[1]? = some (ys[1]'(by rw [hyl]; simp)) := List.getElem?_eq_getElem _
        have hys2 : ys[2]? = some (ys[2]'(by rw [hyl]; simp)) := List.getElem?_eq_getElem _
        rw [hys0] at j0
        rw [hys1] at j1
        rw [hys2] at j2
        obtain ⟨zk, p0, _, _⟩ := DataW.trod_int h0 j0
        obtain ⟨zi, p1, _, wi⟩ := DataW.trod_int h1 j1
        obtain ⟨⟨⟨zt⟩⟩, p2, _, r2⟩ := DataW.trod_string h2 j2
        have a0 := hat 0 (by omega)
        have a1 := hat 1 (by omega)
        have a2 := hat 2 (by omega)
        have a3 := hat 3 (by omega)
        simp at q0 p0 p1 p2
        subst q0; subst p0; subst p1; subst p2
        exact ⟨⟨zn, zk, zi, zt⟩, ⟨a0, a1, a2, a3⟩, r0, r2, wi⟩
    obtain ⟨Z, hZ⟩ := choose_lt each
    refine ⟨(List.range len).map Z, by simp, hl, hm, ?_, ?_⟩
    · by_cases h0 : len = 0
      · exact .inl (by simp [h0])
      · obtain ⟨b, off, rfl, hb⟩ := plain_atA (a := a) (by simpa [Addr.add] using (hZ 0 (by omega)).1.1)
        refine .inr ⟨b, off, rfl, hb, fun i hi => ?_⟩
        have hi' : i < len := by simpa using hi
        have := (hZ i hi').1
        rw [add_lit, add_lit, add_lit, add_lit, add_lit] at this
        simpa [Cells] using this
    · intro z hz
      simp only [List.mem_map, List.mem_range] at hz
      obtain ⟨i, hi, rfl⟩ := hz
      exact (hZ i hi).2
end
end Go.Proofs.Ytnfigjggjmncdaa
namespace Go.Proofs.Ytnfigjggjmncdaa
open Go.RowKit Go.ChangeShapes Go.WideShapes Go.Deep Go.Joins Spans Tb
section
variable {H : Type} {enc : TypeId × Value → H} {w : World} {base : Nat} {spare : Nat → Bool} {held : Bool}
theorem field_at {P : Program} {fs : Array Field} {cs : List Value} {xs : List (DataW H × List MemPlace)} {n i o m : Nat} {t : TypeId} {f : Field}
    (hfs : ∀ (i : Nat) (f : Field), fs[i]? = some f → DataW.trod enc P w base spare held n f.type ((cs.drop f.offset).take (P.cellsOf f.type)) = xs[i]?) (hl : xs.length = fs.size)
    (hf : fs[i]? = some f) (ht : f.type = t ∧ f.offset = o ∧ P.cellsOf t = m) : ∃ y, xs[i]? = some y ∧ DataW.trod enc P w base spare held n t ((cs.drop o).take m) = some y := by
  obtain ⟨rfl, rfl, rfl⟩ := ht
  have hi : i < xs.length := by rw [hl]; exact (Array.getElem?_eq_some_iff.1 hf).1
  exact ⟨xs[i], List.getElem?_eq_getElem hi, (hfs i f hf).trans (List.getElem?_eq_getElem hi)⟩
theorem weights_all {P : Program} {e : TypeId} {R : Nat} : ∀ {l : List (DataW H)}, (∀ n ∈ DataW.weightsAll P e l, n ≤ R) → ∀ d ∈ l, ∀ n ∈ d.weights P e, n ≤ R
  | [], _, d, hd, _, _ => by cases hd
  | a :: r, h, d, hd, n, hn => by
    simp only [DataW.weightsAll, List.mem_append] at h
    rcases List.mem_cons.1 hd with rfl | hd
    · exact h n (.inl hn)
    · exact weights_all (fun m hm => h m (.inr hm)) d hd n hn
theorem weights_slice {P : Program} {t e : TypeId} {R : Nat} {elems spare : List (DataW H)} (ht : P.underlying t = some (.slice e)) (hw : ∀ n ∈ (DataW.slice elems spare).weights P t, n ≤ R) :
    (elems.length + spare.length) * P.bytesOf e ≤ R ∧ ∀ d ∈ elems, ∀ n ∈ d.weights P e, n ≤ R := by
  simp only [DataW.weights, ht] at hw
  exact ⟨hw _ (List.mem_cons_self ..), weights_all fun n hn => hw n (List.mem_cons_of_mem _ (List.mem_append_left _ hn))⟩
theorem weights_struct {P : Program} {t : TypeId} {R : Nat} {parts : List (DataW H)} {fs : Array Field} (ht : P.underlying t = some (.struct fs)) (hw : ∀ n ∈ (DataW.agg parts).weights P t, n ≤ R)
    {i : Nat} {f : Field} {d : DataW H} (hf : fs[i]? = some f) (hd : parts[i]? = some d) : ∀ n ∈ d.weights P f.type, n ≤ R := fun n hn => by
  simp only [DataW.weights, ht] at hw
  exact hw n (DataW.weights_mem_each (j := i) (by rw [List.getElem?_map]; simp [hf]) hd n hn)
theorem reach_num : reachBytes = 140737488351232 := rfl
theorem bounds_of {i : Int} (h : (Lit.int .i64 i).wf = true) : -9223372036854775808 ≤ i ∧ i ≤ 9223372036854775807 := bounds_i64 h
set_option maxRecDepth 100000 in
/-- A filter in a field. -/
theorem open_flt {fuel : Nat} {v : Value} {x : DataW H × List MemPlace} (h : DataW.trod enc Try.prog w base spare held fuel 38 [v] = some x) (hw : ∀ n ∈ x.1.weights Try.prog 38, n ≤ reachBytes) :
    ∃ A n c f, v = .slice A n c ∧ f.length = n ∧ n ≤ c ∧ c ≤ maxLen ∧ n ≤ 2600000000000 ∧ RdQ w A f ∧ PBx f := by
  have hv : ∃ A n c, v = .slice A n c ∧ n ≤ 2600000000000 := by
    rcases open_slice Try.underlying38 h with ⟨hcs, _⟩ | ⟨a, l, c, m, n, D, Pl, hcs, _, hl, hm, hmm, hx1, hx⟩
    · exact ⟨none, 0, 0, by simpa using hcs, by omega⟩
    · refine ⟨some a, l, c, by simpa using hcs, ?_⟩
      subst hx1
      have := (weights_slice Try.underlying38 hw).1
      rw [show Try.prog.bytesOf 47 = 56 from by kernel_rfl, reach_num] at this
      simp at this
      omega
  obtain ⟨A, n, c, rfl, hn⟩ := hv
  have TR : ∀ {a b : Nat}, a = b → a = b := id
  obtain ⟨es, h1, h2, h3, h4, h5⟩ := open_preds_of (enc := enc) (P := Try.prog) (w := w) (base := base) (spare := spare) (held := held) (d := x.1) (p := x.2) Try.underlying38 Try.underlying47 (by kernel_rfl) ⟨rfl, rfl, by kernel_rfl⟩ ⟨rfl, rfl, by kernel_rfl⟩ ⟨rfl, rfl, by kernel_rfl⟩ Try.underlying9 Try.underlying3 Try.underlying45 ⟨rfl, rfl, by kernel_rfl⟩ ⟨rfl, rfl, by kernel_rfl⟩ ⟨rfl, rfl, by kernel_rfl⟩ Try.underlying3 Try.underlying3 Try.underlying9 ⟨fuel, h⟩
  exact ⟨A, n, c, es, rfl, h1, h2, h3, hn, h4, fun p hp => by
    obtain ⟨q1, q2, q3⟩ := h5 p hp
    rw [maxLen_num] at q1 q2
    exact ⟨q1, q2, bounds_of q3⟩⟩
set_option maxRecDepth 100000 in
theorem open_ents {fuel : Nat} {v : Value} {x : DataW H × List MemPlace} (h : DataW.trod enc Try.prog w base spare held fuel 22 [v] = some x) (hw : ∀ n ∈ x.1.weights Try.prog 22, n ≤ reachBytes) :
    ∃ A n c es, v = .slice A n c ∧ es.length = n ∧ n ≤ c ∧ c ≤ maxLen ∧ n ≤ 3600000000000 ∧ RdEn w A es ∧ EBx es := by
  rcases open_slice Try.underlying22 h with ⟨hcs, _⟩ | ⟨a, len, cap, m, n, D, Pl, hcs, _, hl, hm, hmm, hx1, hx⟩
  · exact ⟨none, 0, 0, [], by simpa using hcs, rfl, by omega, by simp, by omega, RdEn.nil _ _, fun k hk => by cases hk⟩
  · subst hx1
    obtain ⟨hbd, hwe⟩ := weights_slice Try.underlying22 hw
    rw [show Try.prog.bytesOf 40 = 40 from by kernel_rfl, reach_num] at hbd
    simp at hbd
    have hlm : len ≤ m := by rw [hmm]; split <;> omega
    have each : ∀ i, i < len → ∃ z : Ex, (w.cell? ((a.add (i * 3)).add 0) = some (.int .i64 z.id) ∧ w.cell? ((a.add (i * 3)).add 1) = some (.int .i64 z.fr) ∧ w.cell? ((a.add (i * 3)).add 2) = some (.slice z.A z.n z.c)) ∧ Flt w z ∧ (z.n ≤ 2600000000000 ∧ -9223372036854775808 ≤ z.id ∧ z.id ≤ 9223372036854775807 ∧ PBx z.f) := fun i hi => by
      obtain ⟨cs, k1, k2⟩ := hx i (by omega)
      rw [show Try.prog.cellsOf 40 = 3 from by kernel_rfl] at k1
      obtain ⟨_, hlen, hat⟩ := World.cells?_some k1
      obtain ⟨xs, n', _, hxx, _, hxl, hfs⟩ := DataW.trod_struct Try.underlying40 k2
      match cs, hlen with
      | [c0, c1, c2], _ =>
        obtain ⟨y0, _, g0⟩ := field_at (i := 0) (t := 3) (o := 0) (m := 1) hfs hxl rfl ⟨rfl, rfl, by kernel_rfl⟩
        obtain ⟨y1, _, g1⟩ := field_at (i := 1) (t := 3) (o := 1) (m := 1) hfs hxl rfl ⟨rfl, rfl, by kernel_rfl⟩
        obtain ⟨y2, e2, g2⟩ := field_at (i := 2) (t := 38) (o := 2) (m := 1) hfs hxl rfl ⟨rfl, rfl, by kernel_rfl⟩
        obtain ⟨z0, q0, _, w0⟩ := DataW.trod_int Try.underlying3 g0
        obtain ⟨z1, q1, _, w1⟩ := DataW.trod_int Try.underlying3 g1
        have hD : D i = .agg (xs.map (·.1)) := congrArg Prod.fst hxx
        have hwi := hwe (D i) (List.mem_map.2 ⟨i, List.mem_range.2 hi, rfl⟩)
        rw [hD] at hwi
        obtain ⟨A, n0, c0', f, q2, f1, f2, f3, f4, f5, f6⟩ := open_flt g2 (weights_struct Try.underlying40 hwi (i := 2) rfl (by rw [List.getElem?_map, e2]; rfl))
        have a0 := hat 0 (by omega)
        have a1 := hat 1 (by omega)
        have a2 := hat 2 (by omega)
        simp at q0 q1
        subst q0; subst q1; subst q2
        have hb := bounds_of w0
        exact ⟨⟨z0, z1, A, n0, c0', f⟩, ⟨a0, a1, a2⟩, ⟨f1, f2, f5⟩, f4, hb.1, hb.2, f6⟩
    obtain ⟨Z, hZ⟩ := choose_lt each
    refine ⟨some a, len, cap, (List.range len).map Z, by simpa using hcs, by simp, hl, hm, by omega, ⟨?_, ?_⟩, ?_⟩
    · by_cases h0 : len = 0
      · exact .inl (by simp [h0])
      · obtain ⟨b, off, rfl, hb⟩ := plain_atQ (a := a) (by simpa [Addr.add] using (hZ 0 (by omega)).1.1)
        refine .inr ⟨b, off, rfl, hb, fun i hi j v hv => ?_⟩
        have hi' : i < len := by simpa using hi
        have := (hZ i hi').1
        rw [add_lit, add_lit, add_lit, add_lit] at this
        obtain ⟨q0, q1, q2⟩ := this
        have hz : ((List.range len).map Z)[i] = Z i := by simp
        rw [hz] at hv
        have hj : j < 3 := by have := (List.getElem?_eq_some_iff.1 hv).1; simpa [layE, cellsE] using this
        show w.cell? ⟨b, off + i * 3 + j, none⟩ = some v
        match j, hj with
        | 0, _ => rw [← hv]; exact q0
        | 1, _ => rw [← hv]; exact q1
        | 2, _ => rw [← hv]; exact q2
    · intro z hz
      simp only [List.mem_map, List.mem_range] at hz
      obtain ⟨i, hi, rfl⟩ := hz
      exact (hZ i hi).2.1
    · intro z hz
      simp only [List.mem_map, List.mem_range] at hz
      obtain ⟨i, hi, rfl⟩ := hz
      exact (hZ i hi).2.2
theorem open_ents_of {A : Option Addr} {len cap : Nat} {d : DataW H} {p : List MemPlace} (h : DataW.Trod enc Try.prog w base spare held 22 (.slice A len cap) d p) (hw : ∀ n ∈ d.weights Try.prog 22, n ≤ reachBytes) :
    ∃ es : List Ex, es.length = len ∧ len ≤ cap ∧ cap ≤ maxLen ∧ len ≤ 3600000000000 ∧ RdEn w A es ∧ EBx es := by
  obtain ⟨fuel, hf⟩ := h
  obtain ⟨A', n', c', es, e, h1, h2, h3, h4, h5, h6⟩ := open_ents (v := .slice A len cap) hf hw
  injection e with e1 e2 e3
  subst e1; subst e2; subst e3
  exact ⟨es, h1, h2, h3, h4, h5, h6⟩
end
end Go.Proofs.Ytnfigjggjmncdaa
