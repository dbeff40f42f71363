/- Arguments, opened: rows of integers, of texts, of pairs of integers. -/
import Derived.Test.YtncpbmokbnjjoaaMem
import Derived.Deep.Slices
import Derived.Deep.Strs
import Derived.ChangeSlices
namespace Go.Proofs.Ytncpbmokbnjjoaa
open Go.RowKit Go.ChangeShapes Go.WideShapes Go.Deep
/-- Values that a slice's address leads to. -/
def RdV (w : World) (A : Option Addr) (vs : List Value) : Prop :=
  vs = [] ∨ ∃ g off, A = some ⟨g, off, none⟩ ∧ g < w.heap.size ∧ ∀ i (h : i < vs.length), w.cell? ⟨g, off + i, none⟩ = some vs[i]
theorem RdV.at_ {w : World} {A : Option Addr} {vs : List Value} (h : RdV w A vs) {k : Nat} (hk : k < vs.length) :
    ∃ g off, A = some ⟨g, off, none⟩ ∧ g < w.heap.size ∧ w.cell? ⟨g, off + k, none⟩ = some vs[k] := by
  rcases h with rfl | ⟨g, off, rfl, hg, hc⟩
  · simp at hk
  · exact ⟨g, off, rfl, hg, hc k hk⟩
theorem RdV.below {w w' : World} {A : Option Addr} {vs : List Value} (h : RdV w A vs) (hb : Below w.heap.size w w') : RdV w' A vs := by
  rcases h with rfl | ⟨g, off, rfl, hg, hc⟩
  · exact .inl rfl
  · exact .inr ⟨g, off, rfl, Nat.lt_of_lt_of_le hg hb.size, fun i hi => (hb.cell (p := ⟨g, off + i, none⟩) hg).trans (hc i hi)⟩
/-- Pairs of ints that a slice's address leads to. -/
def RdP (w : World) (A : Option Addr) (cs : List (Int × Int)) : Prop :=
  cs = [] ∨ ∃ g off, A = some ⟨g, off, none⟩ ∧ g < w.heap.size ∧ ∀ i (h : i < cs.length), w.cell? ⟨g, off + i * 2, none⟩ = some (.int .i64 cs[i].1) ∧ w.cell? ⟨g, off + i * 2 + 1, none⟩ = some (.int .i64 cs[i].2)
theorem RdP.at_ {w : World} {A : Option Addr} {cs : List (Int × Int)} (h : RdP w A cs) {k : Nat} (hk : k < cs.length) :
    ∃ g off, A = some ⟨g, off, none⟩ ∧ g < w.heap.size ∧ w.cell? ⟨g, off + k * 2, none⟩ = some (.int .i64 cs[k].1) ∧ w.cell? ⟨g, off + k * 2 + 1, none⟩ = some (.int .i64 cs[k].2) := by
  rcases h with rfl | ⟨g, off, rfl, hg, hc⟩
  · simp at hk
  · exact ⟨g, off, rfl, hg, hc k hk⟩
theorem RdP.below {w w' : World} {A : Option Addr} {cs : List (Int × Int)} (h : RdP w A cs) (hb : Below w.heap.size w w') : RdP w' A cs := by
  rcases h with rfl | ⟨g, off, rfl, hg, hc⟩
  · exact .inl rfl
  · refine .inr ⟨g, off, rfl, Nat.lt_of_lt_of_le hg hb.size, fun i hi => ?_⟩
    exact ⟨(hb.cell (p := ⟨g, off + i * 2, none⟩) hg).trans (hc i hi).1, (hb.cell (p := ⟨g, off + i * 2 + 1, none⟩) hg).trans (hc i hi).2⟩
/-- Rows of bytes that a slice's address leads to. -/
def RdL (w : World) (A : Option Addr) (xss : List (List UInt8)) : Prop :=
  ∃ vs : List Value, vs.length = xss.length ∧ RdV w A vs ∧ ∀ (i : Nat) (x : List UInt8), xss[i]? = some x → ∃ B c, vs[i]? = some (.slice B x.length c) ∧ x.length ≤ c ∧ Rd w B x
theorem RdL.below {w w' : World} {A : Option Addr} {xss : List (List UInt8)} (h : RdL w A xss) (hb : Below w.heap.size w w') : RdL w' A xss := by
  obtain ⟨vs, h1, h2, h3⟩ := h
  exact ⟨vs, h1, h2.below hb, fun i x hx => by obtain ⟨B, c, e, hc, hr⟩ := h3 i x hx; exact ⟨B, c, e, hc, hr.below hb⟩⟩
theorem RdL.at_ {w : World} {A : Option Addr} {xss : List (List UInt8)} (h : RdL w A xss) {k : Nat} (hk : k < xss.length) :
    ∃ g off B c, A = some ⟨g, off, none⟩ ∧ g < w.heap.size ∧ w.cell? ⟨g, off + k, none⟩ = some (.slice B xss[k].length c) ∧ xss[k].length ≤ c ∧ Rd w B xss[k] := by
  obtain ⟨vs, h1, h2, h3⟩ := h
  obtain ⟨g, off, rfl, hg, hc⟩ := h2.at_ (k := k) (by omega)
  obtain ⟨B, c, e, hl, hr⟩ := h3 k xss[k] (List.getElem?_eq_getElem hk)
  rw [List.getElem?_eq_getElem (by omega)] at e
  injection e with e
  exact ⟨g, off, B, c, rfl, hg, by rw [hc, e], hl, hr⟩
section
variable {H : Type} {enc : TypeId × Value → H} {P : Program} {w : World} {base : Nat} {spare : Nat → Bool} {held : Bool}
/-- A plain address: where there is a cell at all. -/
theorem plain_at {a : Addr} {v : Value} (h : w.cell? a = some v) : ∃ b off, a = ⟨b, off, none⟩ ∧ b < w.heap.size := by
  obtain ⟨b, off, spot⟩ := a
  have hs : spot = none := by simpa using World.cell?_spot h
  subst hs
  exact ⟨b, off, rfl, World.block_lt_of_cell? w _ h⟩
theorem open_ints_of {t e : TypeId} {k : IntKind} {A : Option Addr} {len cap : Nat} {d : DataW H} {p : List MemPlace} (ht : P.underlying t = some (.slice e)) (he : P.underlying e = some (.int k)) (hc : P.cellsOf e = 1)
    (h : DataW.Trod enc P w base spare held t (.slice A len cap) d p) :
    ∃ zs : List Int, zs.length = len ∧ len ≤ cap ∧ cap ≤ maxLen ∧ RdV w A (zs.map (Value.int k)) ∧ ∀ z ∈ zs, (Lit.int k z).wf = true := by
  obtain ⟨fuel, hf⟩ := h
  rcases open_slice1 ht hc hf with ⟨hcs, _⟩ | ⟨a, l, c, m, n, V, D, Pl, hcs, _, hl, hm, hmm, _, hx⟩
  · simp [Value.cells] at hcs
    obtain ⟨rfl, rfl, rfl⟩ := hcs
    exact ⟨[], rfl, by omega, by simp, .inl rfl, by simp⟩
  · simp [Value.cells] at hcs
    obtain ⟨rfl, rfl, rfl⟩ := hcs
    have hlm : len ≤ m := by rw [hmm]; split <;> omega
    have each : ∀ i, i < len → ∃ z : Int, w.cell? (a.add i) = some (.int k z) ∧ (Lit.int k z).wf = true := fun i hi => by
      obtain ⟨h1, h2⟩ := hx i (by omega)
      obtain ⟨z, h3, _, h4⟩ := DataW.trod_int he h2
      exact ⟨z, by rw [h1]; congr 1; simpa using h3, h4⟩
    obtain ⟨Z, hZ⟩ := choose_lt each
    refine ⟨(List.range len).map Z, by simp, hl, hm, ?_, ?_⟩
    · by_cases h0 : len = 0
      · exact .inl (by simp [h0])
      · obtain ⟨b, off, rfl, hb⟩ := plain_at (by simpa [Addr.add] using (hZ 0 (by omega)).1)
        refine .inr ⟨b, off, rfl, hb, fun i hi => ?_⟩
        have hi' : i < len := by simpa using hi
        have := (hZ i hi').1
        rw [add_lit] at this
        rw [this]; simp
    · intro z hz
      simp only [List.mem_map, List.mem_range] at hz
      obtain ⟨i, hi, rfl⟩ := hz
      exact (hZ i hi).2
/-- Rows of bytes that came in. -/
theorem open_rows_of {t e b : TypeId} {A : Option Addr} {len cap : Nat} {d : DataW H} {p : List MemPlace} (ht : P.underlying t = some (.slice e)) (he : P.underlying e = some (.slice b)) (hb : P.underlying b = some (.int .u8)) (hc : P.cellsOf e = 1) (hcb : P.cellsOf b = 1)
    (h : DataW.Trod enc P w base spare held t (.slice A len cap) d p) : ∃ zss : List (List UInt8), zss.length = len ∧ len ≤ cap ∧ cap ≤ maxLen ∧ RdL w A zss := by
  obtain ⟨fuel, hf⟩ := h
  rcases open_slice1 ht hc hf with ⟨hcs, _⟩ | ⟨a, l, c, m, n, V, D, Pl, hcs, _, hl, hm, hmm, _, hx⟩
  · simp [Value.cells] at hcs
    obtain ⟨rfl, rfl, rfl⟩ := hcs
    exact ⟨[], rfl, by omega, by simp, [], rfl, .inl rfl, fun i x hx => by simp at hx⟩
  · simp [Value.cells] at hcs
    obtain ⟨rfl, rfl, rfl⟩ := hcs
    have hlm : len ≤ m := by rw [hmm]; split <;> omega
    have each : ∀ i, i < len → ∃ z : List UInt8, ∃ B c, w.cell? (a.add i) = some (.slice B z.length c) ∧ V i = .slice B z.length c ∧ z.length ≤ c ∧ Rd w B z := fun i hi => by
      obtain ⟨h1, h2⟩ := hx i (by omega)
      rcases open_ints he hb hcb h2 with ⟨e0, _⟩ | ⟨x, l, c, zs, e0, _, hl', _, hz, _, hcell, hwz⟩
      · have e1 : V i = .slice none 0 0 := by simpa using e0
        exact ⟨[], none, 0, by rw [h1, e1]; rfl, e1, by simp, .inl rfl⟩
      · have e1 : V i = .slice (some x) l c := by simpa using e0
        have hlz : l ≤ zs.length := by rw [hz]; split <;> omega
        obtain ⟨bs, hb1, hb2⟩ := rd_of_ints hlz rfl hcell hwz
        subst hb1
        exact ⟨bs, some x, c, by rw [h1, e1], e1, hl', hb2⟩
    obtain ⟨Z, hZ⟩ := choose_lt each
    refine ⟨(List.range len).map Z, by simp, hl, hm, (List.range len).map V, by simp, ?_, ?_⟩
    · by_cases h0 : len = 0
      · exact .inl (by simp [h0])
      · obtain ⟨B0, c0, q0, _⟩ := hZ 0 (by omega)
        obtain ⟨b, off, rfl, hb⟩ := plain_at (by simpa [Addr.add] using q0)
        refine .inr ⟨b, off, rfl, hb, fun i hi => ?_⟩
        have hi' : i < len := by simpa using hi
        obtain ⟨B, c, q1, q2, _⟩ := hZ i hi'
        rw [add_lit] at q1
        rw [q1, ← q2]; simp
    · intro i x hx'
      have hi' : i < len := by
        have := (List.getElem?_eq_some_iff.1 hx').1; simpa using this
      obtain ⟨B, c, q1, q2, q3, q4⟩ := hZ i hi'
      have ex : x = Z i := by simpa [hi'] using hx'.symm
      subst ex
      exact ⟨B, c, by simp [hi', q2], q3, q4⟩
theorem open_strs_of {t e : TypeId} {A : Option Addr} {len cap : Nat} {d : DataW H} {p : List MemPlace} (ht : P.underlying t = some (.slice e)) (he : P.underlying e = some .string) (hc : P.cellsOf e = 1)
    (h : DataW.Trod enc P w base spare held t (.slice A len cap) d p) :
    ∃ zs : List (List UInt8), zs.length = len ∧ len ≤ cap ∧ cap ≤ maxLen ∧ RdV w A (zs.map fun s => Value.string ⟨s.toArray⟩) ∧ ∀ z ∈ zs, z.length ≤ maxLen := by
  obtain ⟨fuel, hf⟩ := h
  rcases open_slice1 ht hc hf with ⟨hcs, _⟩ | ⟨a, l, c, m, n, V, D, Pl, hcs, _, hl, hm, hmm, _, hx⟩
  · simp [Value.cells] at hcs
    obtain ⟨rfl, rfl, rfl⟩ := hcs
    exact ⟨[], rfl, by omega, by simp, .inl rfl, by simp⟩
  · simp [Value.cells] at hcs
    obtain ⟨rfl, rfl, rfl⟩ := hcs
    have hlm : len ≤ m := by rw [hmm]; split <;> omega
    have each : ∀ i, i < len → ∃ z : List UInt8, w.cell? (a.add i) = some (.string ⟨z.toArray⟩) ∧ z.length ≤ maxLen := fun i hi => by
      obtain ⟨h1, h2⟩ := hx i (by omega)
      obtain ⟨⟨⟨z⟩⟩, h3, _, h4⟩ := DataW.trod_string he h2
      exact ⟨z, by rw [h1]; congr 1; simpa using h3, h4⟩
    obtain ⟨Z, hZ⟩ := choose_lt each
    refine ⟨(List.range len).map Z, by simp, hl, hm, ?_, ?_⟩
    · by_cases h0 : len = 0
      · exact .inl (by simp [h0])
      · obtain ⟨b, off, rfl, hb⟩ := plain_at (by simpa [Addr.add] using (hZ 0 (by omega)).1)
        refine .inr ⟨b, off, rfl, hb, fun i hi => ?_⟩
        have hi' : i < len := by simpa using hi
        have := (hZ i hi').1
        rw [add_lit] at this
        rw [this]; simp
    · intro z hz
      simp only [List.mem_map, List.mem_range] at hz
      obtain ⟨i, hi, rfl⟩ := hz
      exact (hZ i hi).2
theorem open_pairs_of {t e t0 t1 : TypeId} {f0 f1 : Field} {A : Option Addr} {len cap : Nat} {d : DataW H} {p : List MemPlace} (ht : P.underlying t = some (.slice e)) (he : P.underlying e = some (.struct #[f0, f1])) (hc : P.cellsOf e = 2)
    (hf0 : f0.type = t0 ∧ f0.offset = 0 ∧ P.cellsOf t0 = 1) (hf1 : f1.type = t1 ∧ f1.offset = 1 ∧ P.cellsOf t1 = 1) (h0 : P.underlying t0 = some (.int .i64)) (h1 : P.underlying t1 = some (.int .i64))
    (h : DataW.Trod enc P w base spare held t (.slice A len cap) d p) :
    ∃ zs : List (Int × Int), zs.length = len ∧ len ≤ cap ∧ cap ≤ maxLen ∧ RdP w A zs ∧ ∀ z ∈ zs, (Lit.int .i64 z.1).wf = true ∧ (Lit.int .i64 z.2).wf = true := by
  obtain ⟨fuel, hf⟩ := h
  rcases open_slice ht hf with ⟨hcs, _⟩ | ⟨a, l, c, m, n, D, Pl, hcs, _, hl, hm, hmm, _, hx⟩
  · simp [Value.cells] at hcs
    obtain ⟨rfl, rfl, rfl⟩ := hcs
    exact ⟨[], rfl, by omega, by simp, .inl rfl, by simp⟩
  · simp [Value.cells] at hcs
    obtain ⟨rfl, rfl, rfl⟩ := hcs
    have hlm : len ≤ m := by rw [hmm]; split <;> omega
    have each : ∀ i, i < len → ∃ z : Int × Int, (w.cell? ((a.add (i * 2)).add 0) = some (.int .i64 z.1) ∧ w.cell? ((a.add (i * 2)).add 1) = some (.int .i64 z.2)) ∧ (Lit.int .i64 z.1).wf = true ∧ (Lit.int .i64 z.2).wf = true := fun i hi => by
      obtain ⟨cs, k1, k2⟩ := hx i (by omega)
      rw [hc] at k1
      obtain ⟨_, hlen, hat⟩ := World.cells?_some k1
      obtain ⟨xs, n', _, _, _, hxl, hfs⟩ := DataW.trod_struct he k2
      match cs, hlen with
      | [c0, c1], _ =>
        have g0 := hfs 0 f0 rfl
        have g1 := hfs 1 f1 rfl
        obtain ⟨e0, o0, s0⟩ := hf0
        obtain ⟨e1, o1, s1⟩ := hf1
        rw [e0, o0, s0] at g0
        rw [e1, o1, s1] at g1
        have hxs0 : xs[0]? = some (xs[0]'(by rw [hxl]; simp)) := List.getElem?_eq_getElem _
        have hxs1 : xs[1]? = some (xs[1]'(by rw [hxl]; simp)) := List.getElem?_eq_getElem _
        rw [hxs0] at g0
        rw [hxs1] at g1
        obtain ⟨z0, q0, _, r0⟩ := DataW.trod_int h0 g0
        obtain ⟨z1, q1, _, r1⟩ := DataW.trod_int h1 g1
        have a0 := hat 0 (by omega)
        have a1 := hat 1 (by omega)
        simp at q0 q1
        subst q0; subst q1
        exact ⟨(z0, z1), ⟨a0, a1⟩, r0, r1⟩
    obtain ⟨Z, hZ⟩ := choose_lt each
    refine ⟨(List.range len).map Z, by simp, hl, hm, ?_, ?_⟩
    · by_cases h0 : len = 0
      · exact .inl (by simp [h0])
      · obtain ⟨b, off, rfl, hb⟩ := plain_at (a := a) (by simpa [Addr.add] using (hZ 0 (by omega)).1.1)
        refine .inr ⟨b, off, rfl, hb, fun i hi => ?_⟩
        have hi' : i < len := by simpa using hi
        have := (hZ i hi').1
        rw [add_lit, add_lit, add_lit] at this
        simpa using this
    · intro z hz
      simp only [List.mem_map, List.mem_range] at hz
      obtain ⟨i, hi, rfl⟩ := hz
      exact (hZ i hi).2
end
end Go.Proofs.Ytncpbmokbnjjoaa
