/- Rows of structs: what a slice leads to, what a call makes, append, cuts; for whatever struct, told by its cells. -/
import Derived.Test.YtcgmbgfbhdimeaaGrow
import Derived.Deep.Slices
import Derived.Deep.Strs
import Derived.ChangeSlices
import Derived.Lib.SmallJoins
import Derived.Laws.CopyRow
import Derived.Laws.OwnMore
namespace Go.Proofs.Ytcgmbgfbhdimeaa
open Go.RowKit Go.ChangeShapes Go.WideShapes Go.Deep Go.Sort
/-- How a struct lies in memory: its cells, as many of each, none of them more than one; its type, its zero value, its bytes. -/
structure Lay (α : Type) where
  enc : α → List Value
  k : Nat
  T : TypeId
  zero : Array Value
  bytes : Nat
  len : ∀ a, (enc a).length = k
  one : ∀ a, ∀ v ∈ enc a, v.oneCell' = true
  pos : 0 < k
  zlen : zero.size = k
  info : (Try.prog.info? T).map (fun i => (i.zero, i.size, i.bytes)) = some (some (.agg zero), k, bytes)
section
variable {α : Type} {L : Lay α}
theorem Lay.has (L : Lay α) : ∃ i, Try.prog.info? L.T = some i ∧ i.zero = some (.agg L.zero) ∧ i.size = L.k ∧ i.bytes = L.bytes := by
  have h := L.info
  cases hq : Try.prog.info? L.T with
  | none => rw [hq] at h; simp at h
  | some i => rw [hq] at h; simp at h; exact ⟨i, rfl, h.1, h.2.1, h.2.2⟩
/-- Structs that a slice's address leads to. -/
def RdK (L : Lay α) (w : World) (A : Option Addr) (es : List α) : Prop :=
  es = [] ∨ ∃ g off, A = some ⟨g, off, none⟩ ∧ g < w.heap.size ∧ ∀ i (h : i < es.length) j v, (L.enc es[i])[j]? = some v → w.cell? ⟨g, off + i * L.k + j, none⟩ = some v
theorem RdK.nil (w : World) (A : Option Addr) : RdK L w A [] := .inl rfl
theorem RdK.at_ {w : World} {A : Option Addr} {es : List α} (h : RdK L w A es) {k : Nat} (hk : k < es.length) :
    ∃ g off, A = some ⟨g, off, none⟩ ∧ g < w.heap.size ∧ ∀ j v, (L.enc es[k])[j]? = some v → w.cell? ⟨g, off + k * L.k + j, none⟩ = some v := by
  rcases h with rfl | ⟨g, off, rfl, hg, hc⟩
  · simp at hk
  · exact ⟨g, off, rfl, hg, hc k hk⟩
theorem RdK.below {w w' : World} {A : Option Addr} {es : List α} (h : RdK L w A es) (hb : Below w.heap.size w w') : RdK L w' A es := by
  rcases h with rfl | ⟨g, off, rfl, hg, hc⟩
  · exact .inl rfl
  · exact .inr ⟨g, off, rfl, Nat.lt_of_lt_of_le hg hb.size, fun i hi j v hv => (hb.cell (p := ⟨g, off + i * L.k + j, none⟩) hg).trans (hc i hi j v hv)⟩
theorem RdK.take {w : World} {A : Option Addr} {es : List α} (h : RdK L w A es) (k : Nat) : RdK L w A (es.take k) := by
  rcases h with rfl | ⟨g, off, rfl, hg, hc⟩
  · exact .inl (by simp)
  · exact .inr ⟨g, off, rfl, hg, fun i hi => by
      have hi' : i < es.length := by simp at hi; omega
      rw [List.getElem_take]; exact hc i hi'⟩
theorem RdK.some_ {w : World} {A : Option Addr} {es : List α} (h : RdK L w A es) (h0 : es ≠ []) : ∃ g off, A = some ⟨g, off, none⟩ ∧ g < w.heap.size ∧ ∀ i (h : i < es.length) j v, (L.enc es[i])[j]? = some v → w.cell? ⟨g, off + i * L.k + j, none⟩ = some v := by
  rcases h with h | h
  · exact absurd h h0
  · exact h
theorem flatL_length (es : List α) : (es.flatMap L.enc).length = es.length * L.k := by
  induction es with
  | nil => simp
  | cons a r ih => rw [List.flatMap_cons, List.length_append, ih, L.len, List.length_cons, Nat.add_mul, Nat.one_mul, Nat.add_comm]
theorem flatL_at : ∀ (es : List α) (i : Nat) (h : i < es.length) (j : Nat), j < L.k → (es.flatMap L.enc)[i * L.k + j]? = (L.enc es[i])[j]?
  | [], _, h, _, _ => by simp at h
  | a :: r, 0, _, j, hj => by
    rw [List.flatMap_cons, List.getElem?_append_left (by rw [L.len]; omega)]; simp
  | a :: r, i + 1, h, j, hj => by
    have e : (i + 1) * L.k + j - (L.enc a).length = i * L.k + j := by rw [L.len, Nat.add_mul, Nat.one_mul]; omega
    rw [List.flatMap_cons, List.getElem?_append_right (by rw [L.len, Nat.add_mul, Nat.one_mul]; omega), e, flatL_at r i (by simpa using h) j hj]; rfl
theorem flatL_one (es : List α) : ∀ v ∈ es.flatMap L.enc, v.oneCell' = true := by
  intro v hv
  obtain ⟨a, _, hv⟩ := List.mem_flatMap.1 hv
  exact L.one a v hv
theorem flatL_of {es : List α} {j : Nat} {v : Value} (hv : (es.flatMap L.enc)[j]? = some v) : ∃ (h : j / L.k < es.length), (L.enc es[j / L.k])[j % L.k]? = some v := by
  have hj : j < es.length * L.k := by
    have := (List.getElem?_eq_some_iff.1 hv).1
    rwa [flatL_length] at this
  have hq : j / L.k < es.length := Nat.div_lt_of_lt_mul (by rwa [Nat.mul_comm] at hj)
  have e : j / L.k * L.k + j % L.k = j := by rw [Nat.mul_comm]; exact Nat.div_add_mod j L.k
  refine ⟨hq, ?_⟩
  rw [← flatL_at es (j / L.k) hq (j % L.k) (Nat.mod_lt _ L.pos), e]; exact hv
theorem RdK.src {w : World} {ad : Addr} {es : List α} (h : RdK L w (some ad) es) : ∀ j v, (es.flatMap L.enc)[j]? = some v → w.cell? (ad.add j) = some v := by
  intro j v hv
  obtain ⟨hq, hv⟩ := flatL_of hv
  obtain ⟨g, off, e, _, hc⟩ := h.at_ hq
  injection e with e
  subst e
  have e : j / L.k * L.k + j % L.k = j := by rw [Nat.mul_comm]; exact Nat.div_add_mod j L.k
  rw [add_lit]
  have := hc _ v hv
  rw [Nat.add_assoc, e] at this
  exact this
/-- A block whose first cells are structs. -/
theorem rdk_of_flat {w : World} {g : Nat} {t : TypeId} {cur : Array Value} {es : List α} (hg : Blk w g t cur) (h : cur.toList.take (es.length * L.k) = es.flatMap L.enc) : RdK L w (some ⟨g, 0, none⟩) es := by
  refine .inr ⟨g, 0, rfl, hg.lt, fun i hi j v hv => ?_⟩
  have hj : j < L.k := by have := (List.getElem?_eq_some_iff.1 hv).1; rwa [L.len] at this
  have hb : i * L.k + j < es.length * L.k := by
    have : (i + 1) * L.k ≤ es.length * L.k := Nat.mul_le_mul_right _ (by omega)
    rw [Nat.add_mul, Nat.one_mul] at this; omega
  rw [hg.cell, Nat.zero_add, ← hv, ← flatL_at es i hi j hj, ← h, List.getElem?_take_of_lt hb]
  simp
/-- A slice of structs that the call itself made. -/
def OwnK (L : Lay α) (w : World) (base : Nat) (v : Value) (es : List α) : Prop := w.ownsRow base L.T L.k v es.length (es.flatMap L.enc)
theorem OwnK.rd {w : World} {base : Nat} {v : Value} {es : List α} (h : OwnK L w base v es) : ∃ A c, v = .slice A es.length c ∧ es.length ≤ c ∧ RdK L w A es := by
  rcases h.2 with ⟨rfl, hn⟩ | ⟨g, cap, cur, rfl, _, hg, hc, _, _, ht⟩
  · have : es = [] := List.eq_nil_of_length_eq_zero hn
    subst this
    exact ⟨none, 0, rfl, by simp, .inl rfl⟩
  · exact ⟨_, cap, rfl, hc, rdk_of_flat hg ht⟩
theorem OwnK.base_le {w : World} {base : Nat} {v : Value} {es : List α} (h : OwnK L w base v es) : ∀ k, v.ownBlock = some k → base ≤ k := fun k hk => (h.lt k hk).1
theorem OwnK.none_ (w : World) (base : Nat) : OwnK L w base (.slice none 0 0) [] := by
  have := World.ownsRow_nil w base L.T L.k
  simpa [OwnK] using this
/-- '[]T{}' -/
theorem OwnK.empty (w : World) (base : Nat) (hb : base ≤ w.heap.size) : OwnK L (w.alloc (.cells #[] L.T)) base (.slice (some ⟨w.heap.size, 0, none⟩) 0 0) [] :=
  ⟨by simp, .inr ⟨w.heap.size, 0, #[], rfl, hb, heap_alloc_new _ _, by simp, by simp, by simp, by simp⟩⟩
theorem OwnK.below {w w' : World} {base : Nat} {v : Value} {es : List α} (h : OwnK L w base v es) (hb : Below w.heap.size w w') : OwnK L w' base v es := by
  refine ⟨h.1, ?_⟩
  rcases h.2 with h2 | ⟨g, cap, cur, hv, hbg, hg, r⟩
  · exact .inl h2
  · exact .inr ⟨g, cap, cur, hv, hbg, (hb.block g (Array.getElem?_eq_some_iff.1 hg).1).trans hg, r⟩
theorem OwnK.less {w : World} {base base' : Nat} {v : Value} {es : List α} (h : OwnK L w base v es) (hb : base' ≤ base) : OwnK L w base' v es := by
  refine ⟨h.1, ?_⟩
  rcases h.2 with h2 | ⟨g, cap, cur, hv, hbg, r⟩
  · exact .inl h2
  · exact .inr ⟨g, cap, cur, hv, Nat.le_trans hb hbg, r⟩
theorem run_append_k (w : World) (base : Nat) (st ty : TypeId) (hst : Try.prog.underlying st = some (.slice L.T)) (v : Value) (es : List α) (hown : OwnK L w base v es) (A : Option Addr) (fs : List α) (m c : Nat) (hr : RdK L w A fs) (hm : fs.length = m)
    (h63 : es.length + m ≤ maxLen) (hlb : (es.length + m) * L.bytes ≤ 140737488355328) (hbase : base ≤ w.heap.size) :
    ∃ v' w', (Builtin.append_ #[st, st] ty #[v, .slice A m c]).run Try.prog w = .ok v' w' ∧ OwnK L w' base v' (es ++ fs) ∧ w.grownBy w' v.ownBlock ∧ (v'.ownBlock = v.ownBlock ∨ v'.ownBlock = some w.heap.size) := by
  subst hm
  obtain ⟨i, hi, hz, hs, hby⟩ := L.has
  rcases A with _ | ad
  · have hfs : fs = [] := by
      rcases hr with h | ⟨_, _, h, _⟩
      · exact h
      · cases h
    subst hfs
    refine ⟨v, w, ?_, by simpa using hown, World.grownBy.refl w _, .inl rfl⟩
    rcases hown.2 with ⟨rfl, _⟩ | ⟨g, cap, cur, rfl, _, _, hnc, _⟩
    · simp [Builtin.append_, run_underlying hst, sizeOf, typeInfo, hi, Builtin.lenOf, Builtin.firstCells]
    · simp [Builtin.append_, run_underlying hst, sizeOf, typeInfo, hi, Builtin.lenOf, Builtin.firstCells, hnc, storeCells]
  · obtain ⟨v', w', hrun, h2, h3, _, h5⟩ := run_append_own_at (P := Try.prog) w base st ty L.T i _ L.k L.bytes hst hi hz hs hby (by show L.zero.size = _; exact L.zlen) L.pos v es.length (es.flatMap L.enc) hown ad fs.length c (fs.flatMap L.enc) (flatL_length fs) hr.src (flatL_one fs) h63 hlb hbase
    refine ⟨v', w', hrun, ?_, h3, h5⟩
    unfold OwnK
    rw [List.length_append, List.flatMap_append]
    exact h2
theorem wpList_append_k (L : Lay α) {w : World} {ops : Array Oper} {rest : List Oper} {o : Oper} {a : Act} {Q : Exit → Act → World → Prop} (hw : Region.wanted o (yielded ops a.tmps) = true) (s x : Operand) (st : TypeId) (hst : Try.prog.underlying st = some (.slice L.T))
    (ho : o.op = .call { callee := .builtin .append, args := #[s, x], argTypes := #[st, st] }) (base : Nat)
    (v : Value) (es : List α) (hs : a.eval s = v) (hown : OwnK L w base v es) (A : Option Addr) (fs : List α) (m c : Nat) (hx : a.eval x = .slice A m c) (hr : RdK L w A fs) (hm : fs.length = m)
    (h63 : es.length + m ≤ maxLen) (hlb : (es.length + m) * L.bytes ≤ 140737488355328) (hbase : base ≤ w.heap.size)
    (h : ∀ v' w', OwnK L w' base v' (es ++ fs) → (∀ w0, Below base w0 w → Below base w0 w') → w.grownBy w' v.ownBlock → (v'.ownBlock = v.ownBlock ∨ v'.ownBlock = some w.heap.size) → wpList Try.prog ops Q rest (a.put o.dst v') w') : wpList Try.prog ops Q (o :: rest) a w := by
  refine wpList_step fun K hK => ?_
  rw [if_pos hw]
  obtain ⟨v', w', hrun, h2, h3, h4⟩ := run_append_k w base st o.type hst v es hown A fs m c hr hm h63 hlb hbase
  unfold Oper.wp execOp
  simp only [ho, resolve, invoke, builtin, Sem.run_bind, Sem.run_pure, Result.andThen_ok, List.map_toArray, List.map_cons, List.map_nil, hs, hx, hrun]
  exact hK _ _ (h v' w' h2 (fun w0 hb => hb.grown h3 hbase hown.base_le) h3 h4)
/-- The same as one operation of a region that draws. -/
theorem op_append_k (L : Lay α) {w : World} {o : Oper} {a : Act} {K : Act → World → Prop} {Q : Exit → Act → World → Prop} (s x : Operand) (st : TypeId) (hst : Try.prog.underlying st = some (.slice L.T))
    (ho : o.op = .call { callee := .builtin .append, args := #[s, x], argTypes := #[st, st] }) (base : Nat)
    (v : Value) (es : List α) (hs : a.eval s = v) (hown : OwnK L w base v es) (A : Option Addr) (fs : List α) (m c : Nat) (hx : a.eval x = .slice A m c) (hr : RdK L w A fs) (hm : fs.length = m)
    (h63 : es.length + m ≤ maxLen) (hlb : (es.length + m) * L.bytes ≤ 140737488355328) (hbase : base ≤ w.heap.size)
    (h : ∀ v' w', OwnK L w' base v' (es ++ fs) → (∀ w0, Below base w0 w → Below base w0 w') → K (a.put o.dst v') w') : Oper.wp Try.prog o a w K Q := by
  obtain ⟨v', w', hrun, h2, h3, h4⟩ := run_append_k w base st o.type hst v es hown A fs m c hr hm h63 hlb hbase
  unfold Oper.wp execOp
  simp only [ho, resolve, invoke, builtin, Sem.run_bind, Sem.run_pure, Result.andThen_ok, List.map_toArray, List.map_cons, List.map_nil, hs, hx, hrun]
  exact h v' w' h2 (fun w0 hb => hb.grown h3 hbase hown.base_le)
/-- One struct in a block of its own, as append of one lays it. -/
theorem rdk_one (L : Lay α) (w : World) (a : α) (t : TypeId) (cs : Array Value) (h : cs = (L.enc a).toArray) : RdK L (w.alloc (.cells cs t)) (some ⟨w.heap.size, 0, none⟩) [a] :=
  rdk_of_flat (Blk.new w t _) (by subst h; simp; exact List.take_of_length_le (by rw [L.len]; exact Nat.le_refl _))
/-- Structs that a composite literal lays. -/
theorem rdk_lit (L : Lay α) (w : World) (es : List α) (t : TypeId) (cs : Array Value) (h : cs = (es.flatMap L.enc).toArray) : RdK L (w.alloc (.cells cs t)) (some ⟨w.heap.size, 0, none⟩) es :=
  rdk_of_flat (Blk.new w t _) (by subst h; simp; exact List.take_of_length_le (by rw [flatL_length]; exact Nat.le_refl _))
theorem ownk_lit (L : Lay α) (w : World) (base : Nat) (hb : base ≤ w.heap.size) (es : List α) (hm : es.length ≤ maxLen) (cs : Array Value) (h : cs = (es.flatMap L.enc).toArray) :
    OwnK L (w.alloc (.cells cs L.T)) base (.slice (some ⟨w.heap.size, 0, none⟩) es.length es.length) es := by
  subst h
  exact ⟨flatL_length es, .inr ⟨w.heap.size, es.length, _, rfl, hb, heap_alloc_new _ _, Nat.le_refl _, hm, by simp only [List.size_toArray, flatL_length], List.take_of_length_le (by rw [flatL_length]; exact Nat.le_refl _)⟩⟩
/-! Rows as the library's contracts want them. -/
variable [Inhabited α]
theorem RdK.cells! {w : World} {g off : Nat} {es : List α} (hc : ∀ i (h : i < es.length) j v, (L.enc es[i])[j]? = some v → w.cell? ⟨g, off + i * L.k + j, none⟩ = some v) :
    ∀ j, j < es.length → ∀ i v, (L.enc es[j]!)[i]? = some v → w.cell? ⟨g, off + j * L.k + i, none⟩ = some v := fun j hj i v hv => by
  rw [getElem!_pos es j hj] at hv
  exact hc j hj i v hv
end
end Go.Proofs.Ytcgmbgfbhdimeaa
