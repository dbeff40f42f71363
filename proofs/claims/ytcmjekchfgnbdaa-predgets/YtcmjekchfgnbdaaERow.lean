/- Rows of attributes: what a slice leads to, what a call makes, append, copy, cuts; arguments, opened. -/
import Derived.Test.YtcmjekchfgnbdaaEMath
import Derived.Test.YtcmjekchfgnbdaaVText
import Derived.Deep.Slices
import Derived.Deep.Strs
import Derived.ChangeSlices
import Derived.Lib.SmallJoins
import Derived.Laws.CopyRow
import Derived.Laws.OwnMore
namespace Go.Proofs.Ytcmjekchfgnbdaa
open Go.RowKit Go.ChangeShapes Go.WideShapes Go.Deep Ev
/-- An attribute's four cells. -/
def cellsA (a : At) : List Value := [.string ⟨a.n.toArray⟩, .int .i64 a.k, .int .i64 a.i, .string ⟨a.t.toArray⟩]
def Cells (w : World) (g o : Nat) (a : At) : Prop :=
  w.cell? ⟨g, o, none⟩ = some (.string ⟨a.n.toArray⟩) ∧ w.cell? ⟨g, o + 1, none⟩ = some (.int .i64 a.k) ∧ w.cell? ⟨g, o + 2, none⟩ = some (.int .i64 a.i) ∧ w.cell? ⟨g, o + 3, none⟩ = some (.string ⟨a.t.toArray⟩)
/-- Attributes that a slice's address leads to. -/
def RdA (w : World) (A : Option Addr) (es : List At) : Prop :=
  es = [] ∨ ∃ g off, A = some ⟨g, off, none⟩ ∧ g < w.heap.size ∧ ∀ i (h : i < es.length), Cells w g (off + i * 4) es[i]
theorem Cells.below {w w' : World} {g o : Nat} {a : At} (h : Cells w g o a) {B : Nat} (hb : Below B w w') (hg : g < B) : Cells w' g o a :=
  ⟨(hb.cell (p := ⟨g, o, none⟩) hg).trans h.1, (hb.cell (p := ⟨g, o + 1, none⟩) hg).trans h.2.1, (hb.cell (p := ⟨g, o + 2, none⟩) hg).trans h.2.2.1, (hb.cell (p := ⟨g, o + 3, none⟩) hg).trans h.2.2.2⟩
theorem RdA.at_ {w : World} {A : Option Addr} {es : List At} (h : RdA w A es) {k : Nat} (hk : k < es.length) :
    ∃ g off, A = some ⟨g, off, none⟩ ∧ g < w.heap.size ∧ Cells w g (off + k * 4) es[k] := by
  rcases h with rfl | ⟨g, off, rfl, hg, hc⟩
  · simp at hk
  · exact ⟨g, off, rfl, hg, hc k hk⟩
theorem RdA.below {w w' : World} {A : Option Addr} {es : List At} (h : RdA w A es) (hb : Below w.heap.size w w') : RdA w' A es := by
  rcases h with rfl | ⟨g, off, rfl, hg, hc⟩
  · exact .inl rfl
  · exact .inr ⟨g, off, rfl, Nat.lt_of_lt_of_le hg hb.size, fun i hi => (hc i hi).below hb hg⟩
theorem RdA.take {w : World} {A : Option Addr} {es : List At} (h : RdA w A es) (k : Nat) : RdA w A (es.take k) := by
  rcases h with rfl | ⟨g, off, rfl, hg, hc⟩
  · exact .inl (by simp)
  · exact .inr ⟨g, off, rfl, hg, fun i hi => by
      have hi' : i < es.length := by simp at hi; omega
      rw [List.getElem_take]; exact hc i hi'⟩
theorem flat_length (es : List At) : (es.flatMap cellsA).length = es.length * 4 := by
  induction es with
  | nil => rfl
  | cons a r ih => rw [List.flatMap_cons, List.length_append, ih]; simp [cellsA]; omega
theorem flat_at : ∀ (es : List At) (i : Nat) (h : i < es.length) (j : Nat), j < 4 → (es.flatMap cellsA)[i * 4 + j]? = (cellsA es[i])[j]?
  | [], _, h, _, _ => by simp at h
  | a :: r, 0, _, j, hj => by
    rw [List.flatMap_cons, List.getElem?_append_left (by simp [cellsA]; omega)]; simp
  | a :: r, i + 1, h, j, hj => by
    rw [List.flatMap_cons, List.getElem?_append_right (by simp [cellsA]; omega)]
    have e : (i + 1) * 4 + j - (cellsA a).length = i * 4 + j := by simp [cellsA]; omega
    rw [e, flat_at r i (by simpa using h) j hj]; rfl
theorem flat_one (es : List At) : ∀ v ∈ es.flatMap cellsA, v.oneCell' = true := by
  intro v hv
  obtain ⟨a, _, hv⟩ := List.mem_flatMap.1 hv
  simp [cellsA] at hv
  rcases hv with rfl | rfl | rfl | rfl <;> rfl
theorem RdA.src {w : World} {ad : Addr} {es : List At} (h : RdA w (some ad) es) : ∀ j v, (es.flatMap cellsA)[j]? = some v → w.cell? (ad.add j) = some v := by
  intro j v hv
  have hj : j < es.length * 4 := by
    have := (List.getElem?_eq_some_iff.1 hv).1
    rwa [flat_length] at this
  obtain ⟨g, off, e, _, hc⟩ := h.at_ (k := j / 4) (by omega)
  injection e with e
  subst e
  have e2 : j = j / 4 * 4 + j % 4 := by omega
  rw [e2, flat_at es (j / 4) (by omega) (j % 4) (Nat.mod_lt _ (by decide))] at hv
  rw [add_lit]
  have h4 : j % 4 = 0 ∨ j % 4 = 1 ∨ j % 4 = 2 ∨ j % 4 = 3 := by omega
  obtain ⟨c0, c1, c2, c3⟩ := hc
  rcases h4 with h4 | h4 | h4 | h4 <;> rw [h4] at hv <;> simp [cellsA] at hv <;> subst hv
  · rw [show off + j = off + j / 4 * 4 by omega]; exact c0
  · rw [show off + j = off + j / 4 * 4 + 1 by omega]; exact c1
  · rw [show off + j = off + j / 4 * 4 + 2 by omega]; exact c2
  · rw [show off + j = off + j / 4 * 4 + 3 by omega]; exact c3
/-- A block whose first cells are attributes. -/
theorem rda_of_flat {w : World} {g : Nat} {t : TypeId} {cur : Array Value} {es : List At} (hg : Blk w g t cur) (h : cur.toList.take (es.length * 4) = es.flatMap cellsA) : RdA w (some ⟨g, 0, none⟩) es := by
  refine .inr ⟨g, 0, rfl, hg.lt, fun i hi => ?_⟩
  have each : ∀ j, j < 4 → w.cell? ⟨g, 0 + i * 4 + j, none⟩ = (cellsA es[i])[j]? := fun j hj => by
    rw [hg.cell, ← flat_at es i hi j hj, ← h, List.getElem?_take_of_lt (by omega), Nat.zero_add]
    simp
  exact ⟨each 0 (by decide), each 1 (by decide), each 2 (by decide), each 3 (by decide)⟩
/-- A slice of attributes that the call itself made. -/
def OwnA (w : World) (base : Nat) (v : Value) (es : List At) : Prop := w.ownsRow base 52 4 v es.length (es.flatMap cellsA)
theorem OwnA.rd {w : World} {base : Nat} {v : Value} {es : List At} (h : OwnA w base v es) : ∃ A c, v = .slice A es.length c ∧ es.length ≤ c ∧ RdA w A es := by
  rcases h.2 with ⟨rfl, hn⟩ | ⟨g, cap, cur, rfl, _, hg, hc, _, _, ht⟩
  · have : es = [] := List.eq_nil_of_length_eq_zero hn
    subst this
    exact ⟨none, 0, rfl, by simp, .inl rfl⟩
  · exact ⟨_, cap, rfl, hc, rda_of_flat hg ht⟩
theorem OwnA.base_le {w : World} {base : Nat} {v : Value} {es : List At} (h : OwnA w base v es) : ∀ k, v.ownBlock = some k → base ≤ k := fun k hk => (h.lt k hk).1
theorem OwnA.none_ (w : World) (base : Nat) : OwnA w base (.slice none 0 0) [] := World.ownsRow_nil w base _ 4
/-- '[]api.Attr{}' -/
theorem OwnA.empty (w : World) (base : Nat) (hb : base ≤ w.heap.size) : OwnA (w.alloc (.cells #[] 52)) base (.slice (some ⟨w.heap.size, 0, none⟩) 0 0) [] :=
  ⟨by simp, .inr ⟨w.heap.size, 0, #[], rfl, hb, heap_alloc_new _ _, by simp, by simp, by simp, by simp⟩⟩
theorem OwnA.below {w w' : World} {base : Nat} {v : Value} {es : List At} (h : OwnA w base v es) (hb : Below w.heap.size w w') : OwnA w' base v es := by
  refine ⟨h.1, ?_⟩
  rcases h.2 with h2 | ⟨g, cap, cur, hv, hbg, hg, r⟩
  · exact .inl h2
  · exact .inr ⟨g, cap, cur, hv, hbg, (hb.block g (Array.getElem?_eq_some_iff.1 hg).1).trans hg, r⟩
theorem OwnA.less {w : World} {base base' : Nat} {v : Value} {es : List At} (h : OwnA w base v es) (hb : base' ≤ base) : OwnA w base' v es := by
  refine ⟨h.1, ?_⟩
  rcases h.2 with h2 | ⟨g, cap, cur, hv, hbg, r⟩
  · exact .inl h2
  · exact .inr ⟨g, cap, cur, hv, Nat.le_trans hb hbg, r⟩
theorem attr_info : (Try.prog.info? 52).map (fun i => (i.zero, i.size, i.bytes)) = some (some (.agg #[.string ⟨#[]⟩, .int .i64 0, .int .i64 0, .string ⟨#[]⟩]), 4, 48) := by kernel_rfl
theorem attr_has : ∃ i, Try.prog.info? 52 = some i ∧ i.zero = some (.agg #[.string ⟨#[]⟩, .int .i64 0, .int .i64 0, .string ⟨#[]⟩]) ∧ i.size = 4 ∧ i.bytes = 48 := by
  have h := attr_info
  cases hq : Try.prog.info? 52 with
  | none => rw [hq] at h; simp at h
  | some i => rw [hq] at h; simp at h; exact ⟨i, rfl, h.1, h.2.1, h.2.2⟩
theorem run_append_a (w : World) (base : Nat) (ty : TypeId) (v : Value) (es : List At) (hown : OwnA w base v es) (A : Option Addr) (fs : List At) (m c : Nat) (hr : RdA w A fs) (hm : fs.length = m)
    (hlb : (es.length + m) * 48 ≤ 140737488355328) (hbase : base ≤ w.heap.size) :
    ∃ v' w', (Builtin.append_ #[26, 26] ty #[v, .slice A m c]).run Try.prog w = .ok v' w' ∧ OwnA w' base v' (es ++ fs) ∧ w.grownBy w' v.ownBlock ∧ (v'.ownBlock = v.ownBlock ∨ v'.ownBlock = some w.heap.size) := by
  subst hm
  obtain ⟨i, hi, hz, hs, hby⟩ := attr_has
  rcases A with _ | ad
  · have hfs : fs = [] := by
      rcases hr with h | ⟨_, _, h, _⟩
      · exact h
      · cases h
    subst hfs
    refine ⟨v, w, ?_, by simpa using hown, World.grownBy.refl w _, .inl rfl⟩
    rcases hown.2 with ⟨rfl, _⟩ | ⟨g, cap, cur, rfl, _, _, hnc, _⟩
    · simp [Builtin.append_, run_underlying Try.underlying26, sizeOf, typeInfo, hi, Builtin.lenOf, Builtin.firstCells]
    · simp [Builtin.append_, run_underlying Try.underlying26, sizeOf, typeInfo, hi, Builtin.lenOf, Builtin.firstCells, hnc, storeCells]
  · obtain ⟨v', w', hrun, h2, h3, _, h5⟩ := run_append_own_at (P := Try.prog) w base 26 ty 52 i _ 4 48 Try.underlying26 hi hz hs hby rfl (by omega) v es.length (es.flatMap cellsA) hown ad fs.length c (fs.flatMap cellsA) (flat_length fs) hr.src (flat_one fs) (by unfold maxLen; omega) hlb hbase
    refine ⟨v', w', hrun, ?_, h3, h5⟩
    unfold OwnA
    rw [List.length_append, List.flatMap_append]
    exact h2
theorem wpList_append_a {w : World} {ops : Array Oper} {rest : List Oper} {o : Oper} {a : Act} {Q : Exit → Act → World → Prop} (hw : Region.wanted o (yielded ops a.tmps) = true) (s x : Operand)
    (ho : o.op = .call { callee := .builtin .append, args := #[s, x], argTypes := #[26, 26] }) (base : Nat)
    (v : Value) (es : List At) (hs : a.eval s = v) (hown : OwnA w base v es) (A : Option Addr) (fs : List At) (m c : Nat) (hx : a.eval x = .slice A m c) (hr : RdA w A fs) (hm : fs.length = m)
    (hlb : (es.length + m) * 48 ≤ 140737488355328) (hbase : base ≤ w.heap.size)
    (h : ∀ v' w', OwnA w' base v' (es ++ fs) → (∀ w0, Below base w0 w → Below base w0 w') → w.grownBy w' v.ownBlock → (v'.ownBlock = v.ownBlock ∨ v'.ownBlock = some w.heap.size) → wpList Try.prog ops Q rest (a.put o.dst v') w') : wpList Try.prog ops Q (o :: rest) a w := by
  refine wpList_step fun K hK => ?_
  rw [if_pos hw]
  obtain ⟨v', w', hrun, h2, h3, h4⟩ := run_append_a w base o.type v es hown A fs m c hr hm hlb hbase
  unfold Oper.wp execOp
  simp only [ho, resolve, invoke, builtin, Sem.run_bind, Sem.run_pure, Result.andThen_ok, List.map_toArray, List.map_cons, List.map_nil, hs, hx, hrun]
  exact hK _ _ (h v' w' h2 (fun w0 hb => hb.grown h3 hbase hown.base_le) h3 h4)
/-- The same as one operation of a region that draws. -/
theorem op_append_a {w : World} {o : Oper} {a : Act} {K : Act → World → Prop} {Q : Exit → Act → World → Prop} (s x : Operand)
    (ho : o.op = .call { callee := .builtin .append, args := #[s, x], argTypes := #[26, 26] }) (base : Nat)
    (v : Value) (es : List At) (hs : a.eval s = v) (hown : OwnA w base v es) (A : Option Addr) (fs : List At) (m c : Nat) (hx : a.eval x = .slice A m c) (hr : RdA w A fs) (hm : fs.length = m)
    (hlb : (es.length + m) * 48 ≤ 140737488355328) (hbase : base ≤ w.heap.size)
    (h : ∀ v' w', OwnA w' base v' (es ++ fs) → (∀ w0, Below base w0 w → Below base w0 w') → K (a.put o.dst v') w') : Oper.wp Try.prog o a w K Q := by
  obtain ⟨v', w', hrun, h2, h3, h4⟩ := run_append_a w base o.type v es hown A fs m c hr hm hlb hbase
  unfold Oper.wp execOp
  simp only [ho, resolve, invoke, builtin, Sem.run_bind, Sem.run_pure, Result.andThen_ok, List.map_toArray, List.map_cons, List.map_nil, hs, hx, hrun]
  exact h v' w' h2 (fun w0 hb => hb.grown h3 hbase hown.base_le)
/-- One attribute in a block of its own, as append of one lays it. -/
theorem rda_one (w : World) (a : At) (t : TypeId) : RdA (w.alloc (.cells #[.string ⟨a.n.toArray⟩, .int .i64 a.k, .int .i64 a.i, .string ⟨a.t.toArray⟩] t)) (some ⟨w.heap.size, 0, none⟩) [a] :=
  rda_of_flat (Blk.new w t _) rfl
theorem rda_two (w : World) (a b : At) (t : TypeId) : RdA (w.alloc (.cells #[.string ⟨a.n.toArray⟩, .int .i64 a.k, .int .i64 a.i, .string ⟨a.t.toArray⟩, .string ⟨b.n.toArray⟩, .int .i64 b.k, .int .i64 b.i, .string ⟨b.t.toArray⟩] t)) (some ⟨w.heap.size, 0, none⟩) [a, b] :=
  rda_of_flat (Blk.new w t _) rfl
/-- A cut off the front, as the model spells it. -/
theorem run_cutA {w : World} {A : Option Addr} {es : List At} {n cap k : Nat} (hr : RdA w A es) (hn : es.length = n) (hk : k ≤ n) (hc : n ≤ cap) :
    ∃ A', (∀ W, (Instr.slice 26 (.slice A n cap) (some (.int .i64 (k : Int))) none none).run Try.prog W = .ok (.slice A' (n - k) (cap - k)) W) ∧ RdA w A' (es.drop k) := by
  by_cases hck : cap = k
  · refine ⟨A, fun W => ?_, .inl (List.drop_eq_nil_of_le (by omega))⟩
    have h1 : (0 : Int) ≤ (k : Int) := by omega
    have h2 : (k : Int) ≤ (n : Int) := by omega
    subst hck
    go_simp
  · refine ⟨A.map fun x => x.add (k * 4), fun W => ?_, ?_⟩
    · have h1 : (0 : Int) ≤ (k : Int) := by omega
      have h2 : (k : Int) ≤ (n : Int) := by omega
      go_simp
    · rcases hr with rfl | ⟨g, off, rfl, hg, hcell⟩
      · exact .inl (by simp)
      · refine .inr ⟨g, off + k * 4, by simp [add_lit], hg, fun i hi => ?_⟩
        have hi' : k + i < es.length := by simp at hi; omega
        rw [List.getElem_drop, show off + k * 4 + i * 4 = off + (k + i) * 4 by omega]; exact hcell (k + i) hi'
/-- A cut off the end, as the model spells it. -/
theorem run_headA (A : Option Addr) (n cap k : Nat) (hk : k ≤ n) (hc : n ≤ cap) (W : World) :
    (Instr.slice 26 (.slice A n cap) none (some (.int .i64 (k : Int))) none).run Try.prog W = .ok (.slice A k cap) W := by
  have h1 : (0 : Int) ≤ (k : Int) := by omega
  have h2 : (k : Int) ≤ (cap : Int) := by omega
  go_simp
section
variable {H : Type} {enc : TypeId × Value → H} {P : Program} {w : World} {base : Nat} {spare : Nat → Bool} {held : Bool}
/-- A plain address: where there is a cell at all. -/
theorem plain_atA {a : Addr} {v : Value} (h : w.cell? a = some v) : ∃ b off, a = ⟨b, off, none⟩ ∧ b < w.heap.size := by
  obtain ⟨b, off, spot⟩ := a
  have hs : spot = none := by simpa using World.cell?_spot h
  subst hs
  exact ⟨b, off, rfl, World.block_lt_of_cell? w _ h⟩
theorem open_attrs_of {t e tn tv t0 t1 t2 : TypeId} {fn fv f0 f1 f2 : Field} {A : Option Addr} {len cap : Nat} {d : DataW H} {p : List MemPlace} (ht : P.underlying t = some (.slice e)) (he : P.underlying e = some (.struct #[fn, fv])) (hc : P.cellsOf e = 4)
    (hfn : fn.type = tn ∧ fn.offset = 0 ∧ P.cellsOf tn = 1) (hfv : fv.type = tv ∧ fv.offset = 1 ∧ P.cellsOf tv = 3) (hn : P.underlying tn = some .string) (hv : P.underlying tv = some (.struct #[f0, f1, f2]))
    (hf0 : f0.type = t0 ∧ f0.offset = 0 ∧ P.cellsOf t0 = 1) (hf1 : f1.type = t1 ∧ f1.offset = 1 ∧ P.cellsOf t1 = 1) (hf2 : f2.type = t2 ∧ f2.offset = 2 ∧ P.cellsOf t2 = 1)
    (h0 : P.underlying t0 = some (.int .i64)) (h1 : P.underlying t1 = some (.int .i64)) (h2 : P.underlying t2 = some .string)
    (h : DataW.Trod enc P w base spare held t (.slice A len cap) d p) :
    ∃ es : List At, es.length = len ∧ len ≤ cap ∧ cap ≤ maxLen ∧ RdA w A es ∧ ∀ a ∈ es, a.n.length ≤ maxLen ∧ a.t.length ≤ maxLen := by
  obtain ⟨fuel, hf⟩ := h
  rcases open_slice ht hf with ⟨hcs, _⟩ | ⟨a, l, c, m, n, D, Pl, hcs, _, hl, hm, hmm, _, hx⟩
  · simp [Value.cells] at hcs
    obtain ⟨rfl, rfl, rfl⟩ := hcs
    exact ⟨[], rfl, by omega, by simp, .inl rfl, by simp⟩
  · simp [Value.cells] at hcs
    obtain ⟨rfl, rfl, rfl⟩ := hcs
    have hlm : len ≤ m := by rw [hmm]; split <;> omega
    have each : ∀ i, i < len → ∃ z : At, (w.cell? ((a.add (i * 4)).add 0) = some (.string ⟨z.n.toArray⟩) ∧ w.cell? ((a.add (i * 4)).add 1) = some (.int .i64 z.k) ∧ w.cell? ((a.add (i * 4)).add 2) = some (.int .i64 z.i) ∧ w.cell? ((a.add (i * 4)).add 3) = some (.string ⟨z.t.toArray⟩)) ∧ z.n.length ≤ maxLen ∧ z.t.length ≤ maxLen := fun i hi => by
      obtain ⟨cs, k1, k2⟩ := hx i (by omega)
      rw [hc] at k1
      obtain ⟨_, hlen, hat⟩ := World.cells?_some k1
      obtain ⟨xs, n', _, _, _, hxl, hfs⟩ := DataW.trod_struct he k2
      match cs, hlen with
      | [c0, c1, c2, c3], _ =>
        have g0 := hfs 0 fn rfl
        have g1 := hfs 1 fv rfl
        obtain ⟨e0, o0, s0⟩ := hfn
        obtain ⟨e1, o1, s1⟩ := hfv
        rw [e0, o0, s0] at g0
        rw [e1, o1, s1] at g1
        have hxs0 : xs[0]? = some (xs[0]'(by rw [hxl]; simp)) := List.getElem?_eq_getElem _
        have hxs1 : xs[1]? = some (xs[1]'(by rw [hxl]; simp)) := List.getElem?_eq_getElem _
        rw [hxs0] at g0
        rw [hxs1] at g1
        obtain ⟨⟨⟨zn⟩⟩, q0, _, r0⟩ := DataW.trod_string hn g0
        obtain ⟨ys, n'', _, _, _, hyl, hfs2⟩ := DataW.trod_struct hv g1
        have j0 := hfs2 0 f0 rfl
        have j1 := hfs2 1 f1 rfl
        have j2 := hfs2 2 f2 rfl
        obtain ⟨e0, o0, s0⟩ := hf0
        obtain ⟨e1, o1, s1⟩ := hf1
        obtain ⟨e2, o2, s2⟩ := hf2
        rw [e0, o0, s0] at j0
        rw [e1, o1, s1] at j1
        rw [e2, o2, s2] at j2
        have hys0 : ys[0]? = some (ys[0]'(by rw [hyl]; simp)) := List.getElem?_eq_getElem _
        have hys1 : ys[1]? = some (ys[1]'(by rw [hyl]; simp)) := List.getElem?_eq_getElem _
        have hys2 : ys[2]? = some (ys[2]'(by rw [hyl]; simp)) := List.getElem?_eq_getElem _
        rw [hys0] at j0
        rw [hys1] at j1
        rw [hys2] at j2
        obtain ⟨zk, p0, _, _⟩ := DataW.trod_int h0 j0
        obtain ⟨zi, p1, _, _⟩ := DataW.trod_int h1 j1
        obtain ⟨⟨⟨zt⟩⟩, p2, _, r2⟩ := DataW.trod_string h2 j2
        have a0 := hat 0 (by omega)
        have a1 := hat 1 (by omega)
        have a2 := hat 2 (by omega)
        have a3 := hat 3 (by omega)
        simp at q0 p0 p1 p2
        subst q0; subst p0; subst p1; subst p2
        exact ⟨⟨zn, zk, zi, zt⟩, ⟨a0, a1, a2, a3⟩, r0, r2⟩
    obtain ⟨Z, hZ⟩ := choose_lt each
    refine ⟨(List.range len).map Z, by simp, hl, hm, ?_, ?_⟩
    · by_cases h0 : len = 0
      · exact .inl (by simp [h0])
      · obtain ⟨b, off, rfl, hb⟩ := plain_atA (a := a) (by simpa [Addr.add] using (hZ 0 (by omega)).1.1)
        refine .inr ⟨b, off, rfl, hb, fun i hi => ?_⟩
        have hi' : i < len := by simpa using hi
        have := (hZ i hi').1
        rw [add_lit, add_lit, add_lit, add_lit, add_lit] at this
        simpa [Cells] using this
    · intro z hz
      simp only [List.mem_map, List.mem_range] at hz
      obtain ⟨i, hi, rfl⟩ := hz
      exact (hZ i hi).2
end
end Go.Proofs.Ytcmjekchfgnbdaa
