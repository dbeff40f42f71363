/- Rows of values and of predicates in memory; spans by value. -/
import Derived.Test.YtcgmbgfbhdimeaaRow
import Derived.Test.YtcgmbgfbhdimeaaSTell
namespace Go.Proofs.Ytcgmbgfbhdimeaa
open Go.RowKit Go.Sort Spans
/-- A value's three cells. -/
def cellsV (v : Val) : List Value := [.int .i64 v.k, .int .i64 v.i, .string ⟨v.t.toArray⟩]
def layV : Lay Val where
  enc := cellsV
  k := 3
  T := 24
  zero := #[.int .i64 0, .int .i64 0, .string ⟨#[]⟩]
  bytes := 32
  len := fun _ => rfl
  one := fun a v hv => by simp [cellsV] at hv; rcases hv with rfl | rfl | rfl <;> rfl
  pos := by decide
  zlen := rfl
  info := by kernel_rfl
instance : Inhabited Pr := ⟨⟨[], 0, 0, 0, []⟩⟩
/-- A predicate's five cells. -/
def cellsP (p : Pr) : List Value := [.string ⟨p.n.toArray⟩, .int .i64 p.o, .int .i64 p.k, .int .i64 p.i, .string ⟨p.t.toArray⟩]
def layP : Lay Pr where
  enc := cellsP
  k := 5
  T := 40
  zero := #[.string ⟨#[]⟩, .int .i64 0, .int .i64 0, .int .i64 0, .string ⟨#[]⟩]
  bytes := 56
  len := fun _ => rfl
  one := fun a v hv => by simp [cellsP] at hv; rcases hv with rfl | rfl | rfl | rfl | rfl <;> rfl
  pos := by decide
  zlen := rfl
  info := by kernel_rfl
/-- Values that a slice's address leads to; predicates. -/
abbrev RdW (w : World) (A : Option Addr) (es : List Val) : Prop := RdK layV w A es
abbrev RdQ (w : World) (A : Option Addr) (es : List Pr) : Prop := RdK layP w A es
abbrev OwnW (w : World) (base : Nat) (v : Value) (es : List Val) : Prop := OwnK layV w base v es
abbrev OwnQ (w : World) (base : Nat) (v : Value) (es : List Pr) : Prop := OwnK layP w base v es
theorem RdW.at3 {w : World} {A : Option Addr} {es : List Val} (h : RdW w A es) {k : Nat} (hk : k < es.length) : ∃ g off, A = some ⟨g, off, none⟩ ∧ g < w.heap.size ∧
    w.cell? ⟨g, off + k * 3, none⟩ = some (.int .i64 es[k].k) ∧ w.cell? ⟨g, off + k * 3 + 1, none⟩ = some (.int .i64 es[k].i) ∧ w.cell? ⟨g, off + k * 3 + 2, none⟩ = some (.string ⟨es[k].t.toArray⟩) := by
  obtain ⟨g, off, rfl, hg, hc⟩ := RdK.at_ h hk
  exact ⟨g, off, rfl, hg, hc 0 _ rfl, hc 1 _ rfl, hc 2 _ rfl⟩
theorem RdQ.at5 {w : World} {A : Option Addr} {es : List Pr} (h : RdQ w A es) {k : Nat} (hk : k < es.length) : ∃ g off, A = some ⟨g, off, none⟩ ∧ g < w.heap.size ∧
    w.cell? ⟨g, off + k * 5, none⟩ = some (.string ⟨es[k].n.toArray⟩) ∧ w.cell? ⟨g, off + k * 5 + 1, none⟩ = some (.int .i64 es[k].o) ∧ w.cell? ⟨g, off + k * 5 + 2, none⟩ = some (.int .i64 es[k].k) ∧
    w.cell? ⟨g, off + k * 5 + 3, none⟩ = some (.int .i64 es[k].i) ∧ w.cell? ⟨g, off + k * 5 + 4, none⟩ = some (.string ⟨es[k].t.toArray⟩) := by
  obtain ⟨g, off, rfl, hg, hc⟩ := RdK.at_ h hk
  exact ⟨g, off, rfl, hg, hc 0 _ rfl, hc 1 _ rfl, hc 2 _ rfl, hc 3 _ rfl, hc 4 _ rfl⟩
theorem underV : Try.prog.underlying 27 = some (.slice layV.T) := Try.underlying27
theorem underQ : Try.prog.underlying 22 = some (.slice layP.T) := Try.underlying22
/-- A cut off the front, as the model spells it. -/
theorem run_cutW {w : World} {A : Option Addr} {es : List Val} {n cap k : Nat} (hr : RdW w A es) (hn : es.length = n) (hk : k ≤ n) (hc : n ≤ cap) :
    ∃ A', (∀ W, (Instr.slice 27 (.slice A n cap) (some (.int .i64 (k : Int))) none none).run Try.prog W = .ok (.slice A' (n - k) (cap - k)) W) ∧ RdW w A' (es.drop k) := by
  by_cases hck : cap = k
  · refine ⟨A, fun W => ?_, .inl (List.drop_eq_nil_of_le (by omega))⟩
    have h1 : (0 : Int) ≤ (k : Int) := by omega
    have h2 : (k : Int) ≤ (n : Int) := by omega
    subst hck
    go_simp
  · refine ⟨A.map fun x => x.add (k * 3), fun W => ?_, ?_⟩
    · have h1 : (0 : Int) ≤ (k : Int) := by omega
      have h2 : (k : Int) ≤ (n : Int) := by omega
      go_simp
    · rcases hr with rfl | ⟨g, off, rfl, hg, hcell⟩
      · exact .inl (by simp)
      · refine .inr ⟨g, off + k * 3, by simp [add_lit], hg, fun i hi j v hv => ?_⟩
        have hi' : k + i < es.length := by simp at hi; omega
        rw [List.getElem_drop] at hv
        have := hcell (k + i) hi' j v hv
        rw [show off + (k + i) * layV.k + j = off + k * 3 + i * layV.k + j by show off + (k + i) * 3 + j = off + k * 3 + i * 3 + j; omega] at this
        exact this
/-- A cut off the end, as the model spells it. -/
theorem run_headW (A : Option Addr) (n cap k : Nat) (hk : k ≤ n) (hc : n ≤ cap) (W : World) :
    (Instr.slice 27 (.slice A n cap) none (some (.int .i64 (k : Int))) none).run Try.prog W = .ok (.slice A k cap) W := by
  have h1 : (0 : Int) ≤ (k : Int) := by omega
  have h2 : (k : Int) ≤ (cap : Int) := by omega
  go_simp
/-- A span by value. -/
def spV (a : Sp) (s : Value) : Value := .agg #[.int .i64 a.kind, .int .i64 a.lo, .int .i64 a.hi, .string ⟨a.frm.toArray⟩, .string ⟨a.to_.toArray⟩, .bool a.opn, s]
/-- A span that lies in a world, whosever its row is. -/
def SpIn (w : World) (a : Sp) (v : Value) : Prop := ∃ A c, v = spV a (.slice A a.no.length c) ∧ a.no.length ≤ c ∧ RdW w A a.no
/-- A span whose row the call made. -/
def SpOwn (w : World) (base : Nat) (a : Sp) (v : Value) : Prop := ∃ s, v = spV a s ∧ OwnW w base s a.no
theorem SpOwn.in_ {w : World} {base : Nat} {a : Sp} {v : Value} (h : SpOwn w base a v) : SpIn w a v := by
  obtain ⟨s, rfl, h⟩ := h
  obtain ⟨A, c, rfl, hc, hr⟩ := OwnK.rd h
  exact ⟨A, c, rfl, hc, hr⟩
theorem SpIn.below {w w' : World} {a : Sp} {v : Value} (h : SpIn w a v) (hb : Below w.heap.size w w') : SpIn w' a v := by
  obtain ⟨A, c, rfl, hc, hr⟩ := h
  exact ⟨A, c, rfl, hc, hr.below hb⟩
theorem SpOwn.below {w w' : World} {base : Nat} {a : Sp} {v : Value} (h : SpOwn w base a v) (hb : Below w.heap.size w w') : SpOwn w' base a v := by
  obtain ⟨s, rfl, h⟩ := h
  exact ⟨s, rfl, h.below hb⟩
theorem SpOwn.less {w : World} {base base' : Nat} {a : Sp} {v : Value} (h : SpOwn w base a v) (hb : base' ≤ base) : SpOwn w base' a v := by
  obtain ⟨s, rfl, h⟩ := h
  exact ⟨s, rfl, h.less hb⟩
theorem SpOwn.none_ (w : World) (base : Nat) : SpOwn w base none_ (spV none_ (.slice none 0 0)) := ⟨_, rfl, OwnK.none_ _ _⟩
theorem SpOwn.any_ (w : World) (base : Nat) : SpOwn w base any_ (spV any_ (.slice none 0 0)) := ⟨_, rfl, OwnK.none_ _ _⟩
theorem blk7 {w : World} {g : Nat} {t : TypeId} {a b c d e f s : Value} (hB : Blk w g t #[a, b, c, d, e, f, s]) :
    w.cell? ⟨g, 0, none⟩ = some a ∧ w.cell? ⟨g, 1, none⟩ = some b ∧ w.cell? ⟨g, 2, none⟩ = some c ∧ w.cell? ⟨g, 3, none⟩ = some d ∧ w.cell? ⟨g, 4, none⟩ = some e ∧ w.cell? ⟨g, 5, none⟩ = some f ∧ w.cell? ⟨g, 6, none⟩ = some s ∧
      w.frozen? ⟨g, 0, none⟩ = false ∧ w.frozen? ⟨g, 1, none⟩ = false ∧ w.frozen? ⟨g, 2, none⟩ = false ∧ w.frozen? ⟨g, 3, none⟩ = false ∧ w.frozen? ⟨g, 4, none⟩ = false ∧ w.frozen? ⟨g, 5, none⟩ = false ∧ w.frozen? ⟨g, 6, none⟩ = false :=
  ⟨hB.cell 0, hB.cell 1, hB.cell 2, hB.cell 3, hB.cell 4, hB.cell 5, hB.cell 6, hB.frozen 0, hB.frozen 1, hB.frozen 2, hB.frozen 3, hB.frozen 4, hB.frozen 5, hB.frozen 6⟩
end Go.Proofs.Ytcgmbgfbhdimeaa
