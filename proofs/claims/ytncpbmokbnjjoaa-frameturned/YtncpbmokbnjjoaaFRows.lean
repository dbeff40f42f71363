/- Rows of slices that a call makes: append of rows. -/
import Derived.Test.YtncpbmokbnjjoaaArgs
namespace Go.Proofs.Ytncpbmokbnjjoaa
open Go.RowKit
theorem row_info : (Try.prog.info? 22).map (fun i => (i.zero, i.size, i.bytes)) = some (some (.slice none 0 0), 1, 24) := by kernel_rfl
theorem run_append_v {P : Program} (w : World) (base : Nat) (t ty e : TypeId) (i : TypeInfo) (z : Value) (bytes : Nat) (ht : P.underlying t = some (.slice e)) (hi : P.info? e = some i) (hz : i.zero = some z) (hsize : i.size = 1) (hby : i.bytes = bytes) (hzs : z.cells.size = 1)
    (v : Value) (xs : List Value) (n : Nat) (hown : w.ownsRow base e 1 v n xs) (A : Option Addr) (ys : List Value) (m c : Nat) (hr : RdV w A ys) (hm : ys.length = m) (h1 : ∀ u ∈ ys, u.oneCell' = true) (hl : n + m ≤ maxLen) (hlb : (n + m) * bytes ≤ 140737488355328) (hbase : base ≤ w.heap.size) :
    ∃ v' w', (Builtin.append_ #[t, t] ty #[v, .slice A m c]).run P w = .ok v' w' ∧ w'.ownsRow base e 1 v' (n + m) (xs ++ ys) ∧ w.grownBy w' v.ownBlock := by
  subst hm
  rcases A with _ | ad
  · have hys : ys = [] := by
      rcases hr with h | ⟨_, _, h, _⟩
      · exact h
      · cases h
    subst hys
    refine ⟨v, w, ?_, by simpa using hown, World.grownBy.refl w _⟩
    rcases hown.2 with ⟨rfl, _⟩ | ⟨g, cap, cur, rfl, _, _, hnc, _⟩
    · simp [Builtin.append_, run_underlying ht, sizeOf, typeInfo, hi, Builtin.lenOf, Builtin.firstCells]
    · simp [Builtin.append_, run_underlying ht, sizeOf, typeInfo, hi, Builtin.lenOf, Builtin.firstCells, hnc, storeCells]
  · have hnews : ∀ j u, ys[j]? = some u → w.cell? (ad.add j) = some u := by
      intro j u hu
      have hj := (List.getElem?_eq_some_iff.1 hu).1
      obtain ⟨g, off, e', _, hc⟩ := hr.at_ hj
      injection e' with e'
      subst e'
      rw [add_lit, hc, ← hu, List.getElem?_eq_getElem hj]
    obtain ⟨v', w', hrun, h2, h3, _, _⟩ := run_append_own_at (P := P) w base t ty e i z 1 bytes ht hi hz hsize hby hzs (by omega) v n xs hown ad ys.length c ys (by simp) hnews h1 hl hlb hbase
    exact ⟨v', w', hrun, h2, h3⟩
/-- append of rows, where the operation's guard is met. -/
theorem wpList_append_vg {P : Program} {w : World} {ops : Array Oper} {rest : List Oper} {o : Oper} {a : Act} {Q : Exit → Act → World → Prop} (hw : Region.wanted o (yielded ops a.tmps) = true) (s x : Operand) (t : TypeId)
    (ho : o.op = .call { callee := .builtin .append, args := #[s, x], argTypes := #[t, t] }) (base : Nat) (e : TypeId) (i : TypeInfo) (z : Value) (bytes : Nat) (ht : P.underlying t = some (.slice e)) (hi : P.info? e = some i) (hz : i.zero = some z) (hsize : i.size = 1) (hby : i.bytes = bytes) (hzs : z.cells.size = 1)
    (v : Value) (xs : List Value) (n : Nat) (hs : a.eval s = v) (hown : w.ownsRow base e 1 v n xs) (A : Option Addr) (ys : List Value) (m c : Nat) (hx : a.eval x = .slice A m c) (hr : RdV w A ys) (hm : ys.length = m) (h1 : ∀ u ∈ ys, u.oneCell' = true)
    (hl : n + m ≤ maxLen) (hlb : (n + m) * bytes ≤ 140737488355328) (hbase : base ≤ w.heap.size)
    (h : ∀ v' w', w'.ownsRow base e 1 v' (n + m) (xs ++ ys) → w.grownBy w' v.ownBlock → (∀ w0, Below base w0 w → Below base w0 w') → wpList P ops Q rest (a.put o.dst v') w') : wpList P ops Q (o :: rest) a w := by
  refine wpList_step fun K hK => ?_
  rw [if_pos hw]
  obtain ⟨v', w', hrun, h2, h3⟩ := run_append_v (P := P) w base t o.type e i z bytes ht hi hz hsize hby hzs v xs n hown A ys m c hr hm h1 hl hlb hbase
  unfold Oper.wp execOp
  simp only [ho, resolve, invoke, builtin, Sem.run_bind, Sem.run_pure, Result.andThen_ok, List.map_toArray, List.map_cons, List.map_nil, hs, hx, hrun]
  exact hK _ _ (h v' w' h2 h3 (fun w0 hb => hb.grown h3 hbase (fun k hk => (hown.lt k hk).1)))
theorem wpList_append_v {P : Program} {w : World} {ops : Array Oper} {rest : List Oper} {o : Oper} {a : Act} {Q : Exit → Act → World → Prop} (hw : Region.wanted o (yielded ops a.tmps) = true) (s x : Operand) (t : TypeId)
    (ho : o.op = .call { callee := .builtin .append, args := #[s, x], argTypes := #[t, t] }) (base : Nat) (e : TypeId) (i : TypeInfo) (z : Value) (bytes : Nat) (ht : P.underlying t = some (.slice e)) (hi : P.info? e = some i) (hz : i.zero = some z) (hsize : i.size = 1) (hby : i.bytes = bytes) (hzs : z.cells.size = 1)
    (v : Value) (xs : List Value) (n : Nat) (hs : a.eval s = v) (hown : w.ownsRow base e 1 v n xs) (A : Option Addr) (ys : List Value) (m c : Nat) (hx : a.eval x = .slice A m c) (hr : RdV w A ys) (hm : ys.length = m) (h1 : ∀ u ∈ ys, u.oneCell' = true)
    (hl : n + m ≤ maxLen) (hlb : (n + m) * bytes ≤ 140737488355328) (hbase : base ≤ w.heap.size)
    (h : ∀ v' w', w'.ownsRow base e 1 v' (n + m) (xs ++ ys) → (∀ w0, Below base w0 w → Below base w0 w') → wpList P ops Q rest (a.put o.dst v') w') : wpList P ops Q (o :: rest) a w :=
  wpList_append_vg hw s x t ho base e i z bytes ht hi hz hsize hby hzs v xs n hs hown A ys m c hx hr hm h1 hl hlb hbase fun v' w' h2 _ h4 => h v' w' h2 h4
/-- Two rows of other make lie in other blocks. -/
theorem rows_apart {w : World} {b1 b2 e1 e2 s1 s2 n1 n2 : Nat} {v1 v2 : Value} {x1 x2 : List Value} (h1 : w.ownsRow b1 e1 s1 v1 n1 x1) (h2 : w.ownsRow b2 e2 s2 v2 n2 x2) (hne : e1 ≠ e2) : v1.ownBlock = none ∨ v1.ownBlock ≠ v2.ownBlock := by
  rcases h1.2 with ⟨rfl, _⟩ | ⟨g, cap, cur, rfl, _, hg, _⟩
  · exact .inl rfl
  · right
    rcases h2.2 with ⟨rfl, _⟩ | ⟨g', cap', cur', rfl, _, hg', _⟩
    · simp [Value.ownBlock]
    · intro e
      obtain rfl : g = g' := by simpa [Value.ownBlock] using e
      rw [hg] at hg'
      simp at hg'
      exact hne hg'.2
/-- Rows of bytes that calls made, each of its own. -/
def EachO (w : World) (base : Nat) (vs : List Value) (xss : List (List UInt8)) : Prop :=
  vs.length = xss.length ∧ ∀ (i : Nat) (x : List UInt8), xss[i]? = some x → ∃ v, vs[i]? = some v ∧ Own w base 5 v x
theorem EachO.nil (w : World) (base : Nat) : EachO w base [] [] := ⟨rfl, fun i x h => by simp at h⟩
theorem EachO.below {w w' : World} {base : Nat} {vs : List Value} {xss : List (List UInt8)} (h : EachO w base vs xss) (hb : Below w.heap.size w w') : EachO w' base vs xss :=
  ⟨h.1, fun i x hx => by obtain ⟨v, e, ho⟩ := h.2 i x hx; exact ⟨v, e, ho.below hb⟩⟩
theorem EachO.grew {w w' : World} {base b n : Nat} {vs xs : List Value} {v : Value} {xss : List (List UInt8)} (h : EachO w base vs xss) (hr : w.ownsRow b 22 1 v n xs) (hg : w.grownBy w' v.ownBlock) : EachO w' base vs xss :=
  ⟨h.1, fun i x hx => by obtain ⟨u, e, ho⟩ := h.2 i x hx; exact ⟨u, e, World.ownsRow.kept ho hg (rows_apart ho hr (by decide))⟩⟩
theorem EachO.snoc {w : World} {base : Nat} {vs : List Value} {xss : List (List UInt8)} (h : EachO w base vs xss) {v : Value} {x : List UInt8} (hv : Own w base 5 v x) : EachO w base (vs ++ [v]) (xss ++ [x]) := by
  refine ⟨by simp [h.1], fun i y hy => ?_⟩
  by_cases hi : i < xss.length
  · rw [List.getElem?_append_left hi] at hy
    obtain ⟨u, e, ho⟩ := h.2 i y hy
    exact ⟨u, by rw [List.getElem?_append_left (by rw [h.1]; exact hi)]; exact e, ho⟩
  · have hi' : i = xss.length := by
      have := (List.getElem?_eq_some_iff.1 hy).1
      simp at this; omega
    subst hi'
    rw [List.getElem?_append_right (Nat.le_refl _)] at hy
    simp at hy
    subst hy
    exact ⟨v, by rw [← h.1, List.getElem?_append_right (Nat.le_refl _)]; simp, hv⟩
theorem ownsRow_at {w w' : World} {base e size k : Nat} {v : Value} {xs : List Value} (h : w.ownsRow base e size v k xs) (hb : Below w.heap.size w w') : w'.ownsRow base e size v k xs := by
  refine ⟨h.1, ?_⟩
  rcases h.2 with h2 | ⟨g, cap, cur, hv, hbg, hg, r⟩
  · exact .inl h2
  · exact .inr ⟨g, cap, cur, hv, hbg, (hb.block g (Array.getElem?_eq_some_iff.1 hg).1).trans hg, r⟩
/-- What each slice of a row leads to. -/
def Each (w : World) (vs : List Value) (xss : List (List UInt8)) : Prop :=
  vs.length = xss.length ∧ ∀ (i : Nat) (x : List UInt8), xss[i]? = some x → ∃ B c, vs[i]? = some (.slice B x.length c) ∧ x.length ≤ c ∧ Rd w B x
theorem Each.below {w w' : World} {vs : List Value} {xss : List (List UInt8)} (h : Each w vs xss) (hb : Below w.heap.size w w') : Each w' vs xss :=
  ⟨h.1, fun i x hx => by obtain ⟨B, c, e, hc, hr⟩ := h.2 i x hx; exact ⟨B, c, e, hc, hr.below hb⟩⟩
theorem Each.append {w : World} {vs us : List Value} {xss yss : List (List UInt8)} (h : Each w vs xss) (k : Each w us yss) : Each w (vs ++ us) (xss ++ yss) := by
  refine ⟨by simp [h.1, k.1], fun i x hx => ?_⟩
  by_cases hi : i < xss.length
  · rw [List.getElem?_append_left hi] at hx
    rw [List.getElem?_append_left (by rw [h.1]; exact hi)]
    exact h.2 i x hx
  · rw [List.getElem?_append_right (by omega)] at hx
    rw [List.getElem?_append_right (by rw [h.1]; omega), h.1]
    exact k.2 _ x hx
theorem Each.one {w : World} {vs : List Value} {xss : List (List UInt8)} (h : Each w vs xss) : ∀ u ∈ vs, u.oneCell' = true := by
  intro u hu
  obtain ⟨i, hi, rfl⟩ := List.getElem_of_mem hu
  obtain ⟨B, c, e, _⟩ := h.2 i (xss[i]'(by rw [← h.1]; exact hi)) (List.getElem?_eq_getElem _)
  rw [List.getElem?_eq_getElem hi] at e
  injection e with e
  rw [e]; rfl
theorem EachO.each {w : World} {base : Nat} {vs : List Value} {xss : List (List UInt8)} (h : EachO w base vs xss) : Each w vs xss :=
  ⟨h.1, fun i x hx => by
    obtain ⟨v, e, ho⟩ := h.2 i x hx
    obtain ⟨A, c, rfl, hc, hr⟩ := ho.rd
    exact ⟨A, c, e, hc, hr⟩⟩
theorem RdL.open_ {w : World} {A : Option Addr} {xss : List (List UInt8)} (h : RdL w A xss) : ∃ vs, RdV w A vs ∧ Each w vs xss := by
  obtain ⟨vs, h1, h2, h3⟩ := h
  exact ⟨vs, h2, h1, h3⟩
theorem rdl_of_row {w : World} {base : Nat} {v : Value} {vs : List Value} {xss : List (List UInt8)} {n : Nat} (h : Each w vs xss) (hn : xss.length = n) (ho : w.ownsRow base 22 1 v n vs) :
    ∃ A c, v = .slice A n c ∧ n ≤ c ∧ RdL w A xss := by
  subst hn
  rcases ho.2 with ⟨rfl, hn⟩ | ⟨g, cap, cur, rfl, _, hg, hc, _, _, ht⟩
  · have e1 : xss = [] := List.eq_nil_of_length_eq_zero hn
    subst e1
    have e2 : vs = [] := List.eq_nil_of_length_eq_zero h.1
    subst e2
    exact ⟨none, 0, rfl, Nat.le_refl _, [], rfl, .inl rfl, h.2⟩
  · refine ⟨_, cap, rfl, hc, vs, h.1, .inr ⟨g, 0, rfl, (Array.getElem?_eq_some_iff.1 hg).1, fun i hi => ?_⟩, h.2⟩
    rw [Nat.zero_add, cell_of_row w g i cur 22 (0, 0) hg]
    have h1 : (cur.toList.take (xss.length * 1))[i]? = vs[i]? := by rw [ht]
    rw [List.getElem?_take_of_lt (by have := h.1; omega)] at h1
    simpa [hi] using h1
end Go.Proofs.Ytncpbmokbnjjoaa
