/- Contracts of the program and of the document (IxArgs, IxLaw, IxSub, IxEvs), each used further on. -/
import Derived.Test.YtnfigjggjmncdaaP3
import Derived.Test.YtnfigjggjmncdaaP4
import Derived.Test.YtnfigjggjmncdaaP5
import Derived.Test.YtnfigjggjmncdaaI4
import Derived.Test.YtnfigjggjmncdaaI5
namespace Go.Proofs.Ytnfigjggjmncdaa
open Go.RowKit Go.ChangeShapes Go.WideShapes Go.Deep Go.Joins Spans Tb
/-- Ops and kinds of sixty-four bits. -/
def KB (f : List Pr) : Prop := ∀ p ∈ f, (-9223372036854775808 ≤ p.o ∧ p.o ≤ 9223372036854775807) ∧ -9223372036854775808 ≤ p.k ∧ p.k ≤ 9223372036854775807
section
variable {H : Type} {enc : TypeId × Value → H} {w : World} {base : Nat} {spare : Nat → Bool} {held : Bool}
set_option maxRecDepth 100000 in
theorem kb_flt {fuel : Nat} {A : Option Addr} {n c : Nat} {x : DataW H × List MemPlace} (h : DataW.trod enc Try.prog w base spare held fuel 38 [.slice A n c] = some x) (f : List Pr) (hn : f.length = n) (hr : RdQ w A f) : KB f := by
  intro p hp
  obtain ⟨i, hi, rfl⟩ := List.getElem_of_mem hp
  rcases open_slice Try.underlying38 h with ⟨hcs, _⟩ | ⟨a, l, cc, m, n2, D, Pl, hcs, _, hl, hm, hmm, _, hx⟩
  · simp at hcs; omega
  · simp at hcs
    obtain ⟨rfl, rfl, rfl⟩ := hcs
    have hlm : n ≤ m := by rw [hmm]; split <;> omega
    obtain ⟨cs, k1, k2⟩ := hx i (by omega)
    rw [show Try.prog.cellsOf 47 = 5 from by kernel_rfl] at k1
    obtain ⟨_, hlen, hat⟩ := World.cells?_some k1
    obtain ⟨xs, n', _, _, _, hxl, hfs⟩ := DataW.trod_struct Try.underlying47 k2
    obtain ⟨g, off, e, _, c0, c1, c2, c3, c4⟩ := RdQ.at5 hr hi
    injection e with e
    subst e
    match cs, hlen with
    | [b0, b1, b2, b3, b4], _ =>
      obtain ⟨y1, _, g1⟩ := field_at (i := 1) (t := 3) (o := 1) (m := 1) hfs hxl rfl ⟨rfl, rfl, by kernel_rfl⟩
      obtain ⟨y2, _, g2⟩ := field_at (i := 2) (t := 45) (o := 2) (m := 3) hfs hxl rfl ⟨rfl, rfl, by kernel_rfl⟩
      obtain ⟨zo, q1, _, w1⟩ := DataW.trod_int Try.underlying3 g1
      obtain ⟨ys, n'', _, _, _, hyl, hfs2⟩ := DataW.trod_struct Try.underlying45 g2
      obtain ⟨y3, _, g3⟩ := field_at (i := 0) (t := 3) (o := 0) (m := 1) hfs2 hyl rfl ⟨rfl, rfl, by kernel_rfl⟩
      obtain ⟨zk, q2, _, w2⟩ := DataW.trod_int Try.underlying3 g3
      have a1 := hat 1 (by omega)
      have a2 := hat 2 (by omega)
      rw [add_lit, add_lit] at a1 a2
      rw [c1] at a1
      rw [c2] at a2
      simp at q1 q2 a1 a2
      rw [← a1] at q1
      rw [← a2] at q2
      injection q1 with _ q1
      injection q2 with _ q2
      rw [q1, q2]
      exact ⟨bounds_of w1, bounds_of w2⟩
set_option maxRecDepth 100000 in
theorem kb_ents {fuel : Nat} {A : Option Addr} {n c : Nat} {x : DataW H × List MemPlace} (h : DataW.trod enc Try.prog w base spare held fuel 22 [.slice A n c] = some x) (es : List Ex) (hn : es.length = n) (hr : RdEn w A es) : ∀ e ∈ es, KB e.f := by
  intro z hz
  obtain ⟨i, hi, rfl⟩ := List.getElem_of_mem hz
  rcases open_slice Try.underlying22 h with ⟨hcs, _⟩ | ⟨a, l, cc, m, n2, D, Pl, hcs, _, hl, hm, hmm, _, hx⟩
  · simp at hcs; omega
  · simp at hcs
    obtain ⟨rfl, rfl, rfl⟩ := hcs
    have hlm : n ≤ m := by rw [hmm]; split <;> omega
    obtain ⟨cs, k1, k2⟩ := hx i (by omega)
    rw [show Try.prog.cellsOf 40 = 3 from by kernel_rfl] at k1
    obtain ⟨_, hlen, hat⟩ := World.cells?_some k1
    obtain ⟨xs, n', _, _, _, hxl, hfs⟩ := DataW.trod_struct Try.underlying40 k2
    obtain ⟨g, off, e, _, c0, c1, c2, hf⟩ := RdEn.at3 hr hi
    injection e with e
    subst e
    match cs, hlen with
    | [b0, b1, b2], _ =>
      obtain ⟨y2, _, g2⟩ := field_at (i := 2) (t := 38) (o := 2) (m := 1) hfs hxl rfl ⟨rfl, rfl, by kernel_rfl⟩
      have a2 := hat 2 (by omega)
      rw [add_lit, add_lit] at a2
      rw [c2] at a2
      simp at a2
      subst a2
      exact kb_flt g2 _ hf.1 hf.2.2
theorem kb_ents_of {A : Option Addr} {len cap : Nat} {d : DataW H} {p : List MemPlace} (h : DataW.Trod enc Try.prog w base spare held 22 (.slice A len cap) d p) (es : List Ex) (hn : es.length = len) (hr : RdEn w A es) : ∀ e ∈ es, KB e.f := by
  obtain ⟨fuel, hf⟩ := h
  exact kb_ents hf es hn hr
end
/-- What Few lets in may be indexed. -/
theorem few_x {es : List Ex} (h : fewE es = true) (hb : EBx es) (hk : ∀ x ∈ es, KB x.f) : XFew es := fun x hx => by
  obtain ⟨h1, _, h3⟩ := fewE_of h
  refine ⟨Nat.le_trans (h3 x hx) (by decide), fun p hp => ?_⟩
  obtain ⟨k1, k2⟩ := hk x hx p hp
  have := (hb x hx).2.2.2 p hp
  exact ⟨⟨this.1, this.2.1⟩, k1, k2, this.2.2⟩
theorem few_b {es : List Ex} (h : fewE es = true) (hb : EBx es) : ∀ x ∈ es, x.n ≤ 1000 ∧ PBd x.f := fun x hx => by
  obtain ⟨h1, _, h3⟩ := fewE_of h
  exact ⟨Nat.le_trans (h3 x hx) (by decide), fun p hp => ⟨(h1 x hx p hp).1, (h1 x hx p hp).2, ((hb x hx).2.2.2 p hp).2.2⟩⟩
theorem few_n {es : List Ex} (h : fewE es = true) : es.length ≤ 80 := (fewE_of h).2.1
theorem few_t {es : List Ex} (h : fewE es = true) (hl : ∀ x ∈ es, x.f.length = x.n) : (fls es).flatten.length ≤ 1000000 := by
  obtain ⟨h1, h2, h3⟩ := fewE_of h
  have := fls_all (es := es) (R := 300) (fun x hx => by rw [hl x hx]; exact h3 x hx)
  omega
end Go.Proofs.Ytnfigjggjmncdaa
namespace Go.Proofs.Ytnfigjggjmncdaa
open Go.RowKit Go.Sort Spans Tb
theorem met_app (a b : List Ex) (ev : List Ev.At) : metIds (a ++ b) ev = metIds a ev ++ metIds b ev := by unfold metIds; rw [List.filter_append, List.map_append]
theorem met_cut (es : List Ex) (ev : List Ev.At) (k : Nat) : metIds es ev = metIds (es.take k) ev ++ metIds (es.drop k) ev := by rw [← met_app, List.take_append_drop]
/-- The entry at place k is met: its Id stands behind those ahead of it. -/
theorem met_at {es : List Ex} {ev : List Ev.At} {k : Nat} {x : Ex} (h : k < es.length) (hx : es[k] = x) (hm : Fil.meets x.f ev = true) : ∃ hh : (metIds (es.take k) ev).length < (metIds es ev).length, (metIds es ev)[(metIds (es.take k) ev).length] = x.id := by
  have e : metIds es ev = metIds (es.take k) ev ++ x.id :: metIds (es.drop (k + 1)) ev := by
    rw [met_cut es ev k, List.drop_eq_getElem_cons h, hx]
    unfold metIds
    rw [List.filter_cons, if_pos hm, List.map_cons]
  have hl : (metIds (es.take k) ev).length < (metIds es ev).length := by rw [e]; simp
  refine ⟨hl, ?_⟩
  have := List.getElem_of_eq e hl
  rw [this]
  simp
end Go.Proofs.Ytnfigjggjmncdaa
namespace Go.Proofs.Ytnfigjggjmncdaa
open Go.RowKit Go.Sort Spans Tb
/-- A right event without one of its attributes meets no more. -/
theorem less_meets {ev : List Ev.At} (h : Ev.Right ev) {k : Nat} {f : List Pr} (hm : Fil.meets f (ev.take k ++ ev.drop (k + 1)) = true) : Fil.meets f ev = true := by
  have ho : Ev.Once ev := Ev.once_of_sort ⟨.refl _, h.2.2⟩
  unfold Fil.meets at *
  rw [List.all_eq_true] at *
  intro p hp
  obtain ⟨a, ha, hh⟩ := Fil.meets_pred.1 (hm p hp)
  have hn : a.n = p.n := by
    have := List.find?_some ha
    simpa using this
  have hma : a ∈ ev := by
    rcases List.mem_append.1 (find_mem ha) with h1 | h1
    · exact List.mem_of_mem_take h1
    · exact List.mem_of_mem_drop h1
  refine Fil.meets_pred.2 ⟨a, ?_, hh⟩
  rw [← hn]
  exact Ev.find_once ho hma
theorem less_sub {ev : List Ev.At} (h : Ev.Right ev) (k : Nat) (es : List Ex) : (metIds es (ev.take k ++ ev.drop (k + 1))).Sublist (metIds es ev) := by
  unfold metIds
  refine List.Sublist.map _ ?_
  have e : es.filter (fun x => Fil.meets x.f (ev.take k ++ ev.drop (k + 1))) = (es.filter fun x => Fil.meets x.f ev).filter fun x => Fil.meets x.f (ev.take k ++ ev.drop (k + 1)) := by
    rw [List.filter_filter]
    refine List.filter_congr fun x _ => ?_
    cases hm : Fil.meets x.f (ev.take k ++ ev.drop (k + 1)) with
    | false => rfl
    | true => rw [less_meets h hm]; rfl
  rw [e]
  exact List.filter_sublist
/-- Step by step through a row that holds another one. -/
theorem sub_hit {a b : List Int} {i j : Nat} (hi : i < a.length) (hj : j < b.length) (h : (b.drop j).Sublist (a.drop i)) (e : a[i] = b[j]) : (b.drop (j + 1)).Sublist (a.drop (i + 1)) := by
  rw [List.drop_eq_getElem_cons hi, List.drop_eq_getElem_cons hj, e] at h
  exact List.cons_sublist_cons.1 h
theorem sub_miss {a b : List Int} {i j : Nat} (hi : i < a.length) (hj : j < b.length) (h : (b.drop j).Sublist (a.drop i)) (e : a[i] ≠ b[j]) : (b.drop j).Sublist (a.drop (i + 1)) := by
  rw [List.drop_eq_getElem_cons hi, List.drop_eq_getElem_cons hj] at h
  rw [List.drop_eq_getElem_cons hj]
  generalize a[i] = u at *
  generalize b[j] = v at *
  cases h with
  | cons _ h => exact h
  | cons_cons _ _ => exact absurd rfl e
theorem sub_end {a b : List Int} {j : Nat} (hj : j ≤ b.length) (h : (b.drop j).Sublist (a.drop a.length)) : j = b.length := by
  rw [List.drop_length] at h
  have := h.length_le
  simp at this
  omega
end Go.Proofs.Ytnfigjggjmncdaa
namespace Go.Proofs.Ytnfigjggjmncdaa
open Go.RowKit Go.ChangeShapes Go.WideShapes Go.Deep Go.Joins Go.Sort Spans Tb
/-- An event, and where it lies. -/
structure Ax where
  A : Option Addr
  n : Nat
  c : Nat
  e : List Ev.At
instance : Inhabited Ax := ⟨⟨none, 0, 0, []⟩⟩
def EvIn (w : World) (x : Ax) : Prop := x.e.length = x.n ∧ x.n ≤ x.c ∧ x.c ≤ maxLen ∧ RdA w x.A x.e ∧ ∀ a ∈ x.e, a.n.length ≤ maxLen ∧ a.t.length ≤ maxLen ∧ (Lit.int .i64 a.i).wf = true
def RdEv (w : World) (A : Option Addr) (xs : List Ax) : Prop := (∀ x ∈ xs, EvIn w x) ∧ (xs = [] ∨ ∃ g off, A = some ⟨g, off, none⟩ ∧ g < w.heap.size ∧ ∀ i (h : i < xs.length), w.cell? ⟨g, off + i, none⟩ = some (.slice xs[i].A xs[i].n xs[i].c))
theorem RdEv.at_ {w : World} {A : Option Addr} {xs : List Ax} (h : RdEv w A xs) {k : Nat} (hk : k < xs.length) : ∃ g off, A = some ⟨g, off, none⟩ ∧ g < w.heap.size ∧ w.cell? ⟨g, off + k, none⟩ = some (.slice xs[k].A xs[k].n xs[k].c) := by
  rcases h.2 with rfl | ⟨g, off, e, hg, hc⟩
  · simp at hk
  · exact ⟨g, off, e, hg, hc k hk⟩
section
variable {H : Type} {enc : TypeId × Value → H} {w : World} {base : Nat} {spare : Nat → Bool} {held : Bool}
set_option maxRecDepth 100000 in
theorem open_evs_of {A : Option Addr} {len cap : Nat} {d : DataW H} {p : List MemPlace} (h : DataW.Trod enc Try.prog w base spare held 23 (.slice A len cap) d p) :
    ∃ xs : List Ax, xs.length = len ∧ len ≤ cap ∧ cap ≤ maxLen ∧ RdEv w A xs := by
  obtain ⟨fuel, hf⟩ := h
  rcases open_slice1 Try.underlying23 (by kernel_rfl) hf with ⟨hcs, _⟩ | ⟨a, l, c, m, n, V, D, Pl, hcs, _, hl, hm, hmm, _, hx⟩
  · simp [Value.cells] at hcs
    obtain ⟨rfl, rfl, rfl⟩ := hcs
    exact ⟨[], rfl, by omega, by simp, fun x hx => (by cases hx), .inl rfl⟩
  · simp [Value.cells] at hcs
    obtain ⟨rfl, rfl, rfl⟩ := hcs
    have hlm : len ≤ m := by rw [hmm]; split <;> omega
    have each : ∀ i, i < len → ∃ z : Ax, w.cell? (a.add i) = some (.slice z.A z.n z.c) ∧ EvIn w z := fun i hi => by
      obtain ⟨h1, h2⟩ := hx i (by omega)
      have hv : ∃ A' n' c', V i = .slice A' n' c' := by
        rcases open_slice Try.underlying31 h2 with ⟨e0, _⟩ | ⟨x, l, c, _, _, _, _, e0, _⟩
        · exact ⟨none, 0, 0, by simpa using e0⟩
        · exact ⟨some x, l, c, by simpa using e0⟩
      obtain ⟨A', n', c', hv⟩ := hv
      rw [hv] at h1 h2
      obtain ⟨es, k1, k2, k3, k4, k5⟩ := open_attrs_w (enc := enc) (P := Try.prog) (w := w) (base := base) (spare := spare) (held := held) (t := 31) (A := A') (len := n') (cap := c') Try.underlying31 Try.underlying49 (by kernel_rfl) ⟨rfl, rfl, by kernel_rfl⟩ ⟨rfl, rfl, by kernel_rfl⟩ Try.underlying9 Try.underlying45 ⟨rfl, rfl, by kernel_rfl⟩ ⟨rfl, rfl, by kernel_rfl⟩ ⟨rfl, rfl, by kernel_rfl⟩ Try.underlying3 Try.underlying3 Try.underlying9 ⟨_, h2⟩
      exact ⟨⟨A', n', c', es⟩, h1, k1, k2, k3, k4, k5⟩
    obtain ⟨Z, hZ⟩ := choose_lt each
    refine ⟨(List.range len).map Z, by simp, hl, hm, fun x hx => ?_, ?_⟩
    · simp only [List.mem_map, List.mem_range] at hx
      obtain ⟨i, hi, rfl⟩ := hx
      exact (hZ i hi).2
    · by_cases h0 : len = 0
      · exact .inl (by simp [h0])
      · obtain ⟨b, off, rfl, hb⟩ := plain_atQ (a := a) (by simpa [Addr.add] using (hZ 0 (by omega)).1)
        refine .inr ⟨b, off, rfl, hb, fun i hi => ?_⟩
        have hi' : i < len := by simpa using hi
        have := (hZ i hi').1
        rw [add_lit] at this
        simpa using this
end
/-- A row of ints that the call made: one of them written. -/
theorem OwnZ.put1 {w : World} {base m d : Nat} {B : Option Addr} {l : List Int} (h : OwnZ layI w base (.slice B m d) l) (hl : l.length = m) {k : Nat} (hk : k < m) :
    ∃ g, B = some ⟨g, 0, none⟩ ∧ base ≤ g ∧ g < w.heap.size ∧ (∃ u, w.cell? ⟨g, k, none⟩ = some u) ∧ w.frozen? ⟨g, k, none⟩ = false ∧ ∀ z : Int, OwnZ layI (w.setCell ⟨g, k, none⟩ (.int .i64 z)) base (.slice B m d) (l.set k z) := by
  obtain ⟨h1, h2⟩ := h
  rcases h2 with ⟨e, hn⟩ | ⟨g, cap, cur, e, hbg, hg, hc, hcm, hs, ht⟩
  · omega
  · injection e with e1 e2 e3
    subst e3
    have hB : Blk w g layI.T cur := hg
    have hkc : k < cur.size := by rw [hs]; show k < d * 1; omega
    refine ⟨g, e1, hbg, hB.lt, ⟨cur[k], by rw [hB.cell]; exact Array.getElem?_eq_getElem hkc⟩, hB.frozen k, fun z => ⟨?_, .inr ⟨g, d, cur.setIfInBounds k (.int .i64 z), ?_, hbg, hB.put k _, ?_, hcm, ?_, ?_⟩⟩⟩
    · rw [flatZ_length]
    · rw [List.length_set, e1, e2]
    · rw [List.length_set]; exact hc
    · rw [Array.size_setIfInBounds]; exact hs
    · rw [List.length_set]
      have hf : ∀ r : List Int, r.flatMap layI.enc = r.map (Value.int .i64) := fun r => by
        induction r with
        | nil => rfl
        | cons a r ih => rw [List.flatMap_cons, ih]; rfl
      rw [hf] at ht ⊢
      rw [List.map_set, ← ht, Array.toList_setIfInBounds, List.take_set]
end Go.Proofs.Ytnfigjggjmncdaa
