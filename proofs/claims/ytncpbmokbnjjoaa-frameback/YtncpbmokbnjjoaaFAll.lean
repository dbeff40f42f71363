/- Package frame: All. -/
import Derived.Test.YtncpbmokbnjjoaaFIter
import Derived.Test.YtncpbmokbnjjoaaArgs
import Derived.Test.YtncpbmokbnjjoaaLoop
import Derived.Test.YtncpbmokbnjjoaaFRows
namespace Go.Proofs.Ytncpbmokbnjjoaa
open Go.RowKit Go.Shelf
attribute [local go_sem] Oper.semAt_some
/-- Rows of bytes that were made: each row's slice, and its block. -/
def Els (w : World) (vs : List Value) (xss : List (List UInt8)) : Prop :=
  vs.length = xss.length ∧ ∀ (i : Nat) (x : List UInt8), xss[i]? = some x → ∃ g, vs[i]? = some (.slice (some ⟨g, 0, none⟩) x.length x.length) ∧ Blk w g 5 (x.map Bv).toArray
theorem Els.nil (w : World) : Els w [] [] := ⟨rfl, fun i x h => by simp at h⟩
theorem Els.snoc {w : World} {vs : List Value} {xss : List (List UInt8)} (h : Els w vs xss) (x : List UInt8) (g s : Nat) (hs : x.length = s) (hB : Blk w g 5 (x.map Bv).toArray) :
    Els w (vs ++ [.slice (some ⟨g, 0, none⟩) s s]) (xss ++ [x]) := by
  subst hs
  refine ⟨by simp [h.1], fun i y hy => ?_⟩
  by_cases hi : i < xss.length
  · rw [List.getElem?_append_left hi] at hy
    obtain ⟨g', e, hB'⟩ := h.2 i y hy
    exact ⟨g', by rw [List.getElem?_append_left (by rw [h.1]; exact hi)]; exact e, hB'⟩
  · have hi' : i = xss.length := by
      have := (List.getElem?_eq_some_iff.1 hy).1
      simp at this; omega
    subst hi'
    rw [List.getElem?_append_right (Nat.le_refl _)] at hy
    simp at hy
    subst hy
    exact ⟨g, by rw [← h.1, List.getElem?_append_right (Nat.le_refl _)]; simp, hB⟩
theorem Els.map {w w' : World} {vs : List Value} {xss : List (List UInt8)} (h : Els w vs xss) (hk : ∀ g (cs : Array Value), Blk w g 5 cs → Blk w' g 5 cs) : Els w' vs xss :=
  ⟨h.1, fun i x hx => by obtain ⟨g, e, hB⟩ := h.2 i x hx; exact ⟨g, e, hk g _ hB⟩⟩
theorem Els.below {w w' : World} {vs : List Value} {xss : List (List UInt8)} (h : Els w vs xss) (hb : Below w.heap.size w w') : Els w' vs xss := h.map fun _ _ hB => hB.below hb hB.lt
theorem Els.rdl {w : World} {base : Nat} {v : Value} {vs : List Value} {xss : List (List UInt8)} (h : Els w vs xss) (ho : w.ownsRow base 22 1 v xss.length vs) :
    ∃ A c, v = .slice A xss.length c ∧ xss.length ≤ c ∧ RdL w A xss := by
  have hE : ∀ (i : Nat) (x : List UInt8), xss[i]? = some x → ∃ B c, vs[i]? = some (.slice B x.length c) ∧ x.length ≤ c ∧ Rd w B x := fun i x hx => by
    obtain ⟨g, e, hB⟩ := h.2 i x hx
    exact ⟨_, _, e, Nat.le_refl _, hB.rd⟩
  rcases ho.2 with ⟨rfl, hn⟩ | ⟨g, cap, cur, rfl, _, hg, hc, _, _, ht⟩
  · have e1 : xss = [] := List.eq_nil_of_length_eq_zero hn
    subst e1
    have e2 : vs = [] := List.eq_nil_of_length_eq_zero h.1
    subst e2
    exact ⟨none, 0, rfl, Nat.le_refl _, [], rfl, .inl rfl, hE⟩
  · refine ⟨_, cap, rfl, hc, vs, h.1, .inr ⟨g, 0, rfl, (Array.getElem?_eq_some_iff.1 hg).1, fun i hi => ?_⟩, hE⟩
    rw [Nat.zero_add, cell_of_row w g i cur 22 (0, 0) hg]
    have h1 : (cur.toList.take (xss.length * 1))[i]? = vs[i]? := by rw [ht]
    rw [List.getElem?_take_of_lt (by have := h.1; omega)] at h1
    simpa [hi] using h1
/-- What lies between two rounds: the result's three boxes, the rows so far, where the last one ends, the loop's two blocks. -/
structure Mid (w : World) (bs : List UInt8) (r : Loop) (k : Nat) (W : World) : Prop where
  below : Below w.heap.size w W
  res0 : Boxed W w.heap.size 29 (.slice none 0 0)
  res1 : Boxed W (w.heap.size + 1) 3 (.int .i64 0)
  res2 : Boxed W (w.heap.size + 2) 24 (.int .i64 0)
  fin : Boxed W (w.heap.size + 4) 3 (.int .i64 (k : Int))
  defs : W.heap[w.heap.size + 6]? = some (.deferred (some []))
  loop : W.heap[w.heap.size + 7]? = some (.loop r)
  rows : ∃ v vs xss, Boxed W (w.heap.size + 3) 29 v ∧ W.ownsRow w.heap.size 22 1 v xss.length vs ∧ Els W vs xss ∧ xss.length ≤ k ∧
    Frm.all bs = (xss ++ (Frm.all (bs.drop k)).1, k + (Frm.all (bs.drop k)).2.1, (Frm.all (bs.drop k)).2.2)
theorem ownsRow_below {w w' : World} {base e size k : Nat} {v : Value} {xs : List Value} (h : w.ownsRow base e size v k xs) (hb : Below w.heap.size w w') : w'.ownsRow base e size v k xs := by
  refine ⟨h.1, ?_⟩
  rcases h.2 with h2 | ⟨g, cap, cur, hv, hbg, hg, r⟩
  · exact .inl h2
  · exact .inr ⟨g, cap, cur, hv, hbg, (hb.block g (Array.getElem?_eq_some_iff.1 hg).1).trans hg, r⟩
theorem below_heap {w w' : World} {i : Nat} {o : Obj} (h : w.heap[i]? = some o) (hb : Below w.heap.size w w') : w'.heap[i]? = some o :=
  (hb.block i (Array.getElem?_eq_some_iff.1 h).1).trans h
theorem Mid.on {w : World} {bs : List UInt8} {r : Loop} {k : Nat} {W W' : World} (h : Mid w bs r k W) (hb : Below W.heap.size W W') : Mid w bs r k W' := by
  obtain ⟨v, vs, xss, h1, h2, h3, h4⟩ := h.rows
  exact ⟨below_next h.below (Nat.le_refl _) hb, below_heap h.res0 hb, below_heap h.res1 hb, below_heap h.res2 hb, below_heap h.fin hb, below_heap h.defs hb, below_heap h.loop hb,
    v, vs, xss, below_heap h1 hb, ownsRow_below h2 hb, h3.below hb, h4⟩
/-- What lies where a round has left by a return. -/
structure Out (w : World) (bs : List UInt8) (r : Loop) (W : World) : Prop where
  below : Below w.heap.size w W
  defs : W.heap[w.heap.size + 6]? = some (.deferred (some []))
  loop : W.heap[w.heap.size + 7]? = some (.loop r)
  rows : ∃ v vs, W.ownsRow w.heap.size 22 1 v (Frm.all bs).1.length vs ∧ Els W vs (Frm.all bs).1 ∧ Boxed W w.heap.size 29 v
  res1 : Boxed W (w.heap.size + 1) 3 (.int .i64 ((Frm.all bs).2.1 : Int))
  res2 : Boxed W (w.heap.size + 2) 24 (.int .i64 ((Frm.all bs).2.2 : Int))
theorem row_set {W : World} {B t e base size k : Nat} {u u' v : Value} {xs : List Value} (hb : Boxed W B t u) (hte : t ≠ e) (h : W.ownsRow base e size v k xs) : (W.setCell ⟨B, 0, none⟩ u').ownsRow base e size v k xs :=
  h.kept (grownBy_setCell' W B u') (.inr (hb.not_row hte h).symm)
theorem blk_set {W : World} {B t g t' : Nat} {u u' : Value} {cs : Array Value} (hb : Boxed W B t u) (hte : t ≠ t') (h : Blk W g t' cs) : Blk (W.setCell ⟨B, 0, none⟩ u') g t' cs := by
  refine ((grownBy_setCell' W B u').block g h.lt (fun e => ?_)).trans h
  obtain rfl : g = B := by simpa using e
  have h1 : W.heap[g]? = some (.cells #[u] t (0, 0)) := hb
  have h2 : W.heap[g]? = some (.cells cs t' (0, 0)) := h
  rw [h1] at h2
  simp at h2
  exact hte h2.2
theorem els_set {W : World} {B t : Nat} {u u' : Value} {vs : List Value} {xss : List (List UInt8)} (hb : Boxed W B t u) (hte : t ≠ 5) (h : Els W vs xss) : Els (W.setCell ⟨B, 0, none⟩ u') vs xss := h.map fun _ _ hg => blk_set hb hte hg
theorem heap_set {W : World} {B i : Nat} {o : Obj} (u' : Value) (h : W.heap[i]? = some o) (hne : i ≠ B) : (W.setCell ⟨B, 0, none⟩ u').heap[i]? = some o :=
  ((grownBy_setCell' W B u').block i (Array.getElem?_eq_some_iff.1 h).1 (fun e => hne (by cases e; rfl))).trans h
/-- The three results are stored. -/
theorem three_stored {w W : World} {v v0 a a0 x x0 : Value} {vs : List Value} {xss : List (List UInt8)} {k : Nat} (c0 : Boxed W w.heap.size 29 v0) (c1 : Boxed W (w.heap.size + 1) 3 a0) (c2 : Boxed W (w.heap.size + 2) 24 x0)
    (hB : Below w.heap.size w W) (hrow : W.ownsRow w.heap.size 22 1 v k vs) (hels : Els W vs xss) (hK : W.heap[w.heap.size + 6]? = some (.deferred (some []))) (X : World)
    (hX : X = (((W.setCell ⟨w.heap.size, 0, none⟩ v).setCell ⟨w.heap.size + 1, 0, none⟩ a).setCell ⟨w.heap.size + 1 + 1, 0, none⟩ x).drew) :
    Boxed X w.heap.size 29 v ∧ Boxed X (w.heap.size + 1) 3 a ∧ Boxed X (w.heap.size + 2) 24 x ∧ Below w.heap.size w X ∧ X.ownsRow w.heap.size 22 1 v k vs ∧ Els X vs xss ∧ X.heap[w.heap.size + 6]? = some (.deferred (some [])) := by
  subst hX
  have b1 : Boxed (W.setCell ⟨w.heap.size, 0, none⟩ v) (w.heap.size + 1) 3 a0 := c1.other (by omega) _
  have b2 : Boxed ((W.setCell ⟨w.heap.size, 0, none⟩ v).setCell ⟨w.heap.size + 1, 0, none⟩ a) (w.heap.size + 2) 24 x0 := (c2.other (by omega) _).other (by omega) _
  exact ⟨((c0.set v).other (by omega) _).other (by omega) _, (b1.set a).other (by omega) _, b2.set x, (((hB.setCell (Nat.le_refl _) _).setCell (by simp) _).setCell (by simp; omega) _).drew,
    row_set b2 (by decide) (row_set b1 (by decide) (row_set c0 (by decide) hrow)), els_set b2 (by decide) (els_set b1 (by decide) (els_set c0 (by decide) hels)),
    heap_set _ (heap_set _ (heap_set _ hK (by omega)) (by omega)) (by omega)⟩
/-- How All is left: its results in their boxes, the loop's block shut. -/
theorem all_leave {m : Nat} {w X : World} {bs : List UInt8} {v : Value} {vs : List Value} {a x : Nat} (hx0 : Boxed X w.heap.size 29 v) (hx1 : Boxed X (w.heap.size + 1) 3 (.int .i64 (a : Int))) (hx2 : Boxed X (w.heap.size + 2) 24 (.int .i64 (x : Int)))
    (hB : Below w.heap.size w X) (hrow : X.ownsRow w.heap.size 22 1 v (Frm.all bs).1.length vs) (hels : Els X vs (Frm.all bs).1) (hK : X.heap[w.heap.size + 6]? = some (.deferred (some []))) (ha : (Frm.all bs).2.1 = a) (hx : (Frm.all bs).2.2 = x) (t0 t1 : Value) (rest : List Value) :
    bodyPostM Fence.wide m Try.prog Try.f13 (fun e w' => ∃ B c, e = .returned (.tuple #[.slice B (Frm.all bs).1.length c, .int .i64 ((Frm.all bs).2.1 : Int), .int .i64 ((Frm.all bs).2.2 : Int)]) ∧
      (Frm.all bs).1.length ≤ c ∧ RdL w' B (Frm.all bs).1 ∧ Below w.heap.size w w') .ret
      { tmps := (t0 :: t1 :: .pointer (some ⟨w.heap.size, 0, none⟩) :: .pointer (some ⟨w.heap.size + 1, 0, none⟩) :: .pointer (some ⟨w.heap.size + 1 + 1, 0, none⟩) :: rest).toArray, defers := [{ target := .collected (w.heap.size + 6), args := #[] }] } X := by
  rw [ha, hx]
  refine ⟨by simp, .inl ⟨_, _, rfl, run_takeDeferred hK, ?_⟩⟩
  have c0 := Boxed.cell (show Boxed (X.putObj (w.heap.size + 6) (.deferred none)) _ _ _ from put_other hx0 (by omega))
  have c1 := Boxed.cell (show Boxed (X.putObj (w.heap.size + 6) (.deferred none)) _ _ _ from put_other hx1 (by omega))
  have c2 : (X.putObj (w.heap.size + 6) (.deferred none)).cell? ⟨w.heap.size + 1 + 1, 0, none⟩ = _ := Boxed.cell (show Boxed (X.putObj (w.heap.size + 6) (.deferred none)) _ _ _ from put_other hx2 (by omega))
  have hrow' := ownsRow_putObj hrow (.deferred none) hK rfl
  have hels' : Els (X.putObj (w.heap.size + 6) (.deferred none)) vs (Frm.all bs).1 := hels.map fun g cs hg => put_other hg (fun e => by
    have h1 : X.heap[g]? = some (.cells cs 5 (0, 0)) := hg
    rw [e, hK] at h1; cases h1)
  have hB' : Below w.heap.size w (X.putObj (w.heap.size + 6) (.deferred none)) := hB.trans (belowK_b (w := w) (Nat.le_refl _) X _ _ _ (by omega) hK rfl rfl)
  obtain ⟨A, c, rfl, hc, hrd⟩ := hels'.rdl hrow'
  refine ⟨.tuple #[.slice A (Frm.all bs).1.length c, .int .i64 (a : Int), .int .i64 (x : Int)], ?_, A, c, rfl, hc, hrd, hB'⟩
  simp [results, Try.f13, go_sem, c0, c1, c2]
theorem Mid.put {w : World} {bs : List UInt8} {r : Loop} {k : Nat} {W : World} (h : Mid w bs r k W) (r' : Loop) : Mid w bs r' k (W.putObj (w.heap.size + 7) (.loop r')) := by
  obtain ⟨v, vs, xss, h1, h2, h3, h4⟩ := h.rows
  refine ⟨h.below.trans (belowK_b (w := w) (Nat.le_refl _) W _ _ _ (by omega) h.loop rfl rfl), put_other h.res0 (by omega), put_other h.res1 (by omega), put_other h.res2 (by omega), put_other h.fin (by omega), put_other h.defs (by omega), put_same h.loop,
    v, vs, xss, put_other h1 (by omega), ownsRow_putObj h2 _ h.loop rfl, h3.map fun g cs hg => put_other hg (fun e => ?_), h4⟩
  have h1 : W.heap[g]? = some (.cells cs 5 (0, 0)) := hg
  rw [e, h.loop] at h1; cases h1
theorem Blk.not_row {W : World} {g t e base size k : Nat} {cs : Array Value} {v : Value} {xs : List Value} (h : Blk W g t cs) (hte : t ≠ e) (hr : W.ownsRow base e size v k xs) : some g ≠ v.ownBlock := by
  rcases hr.2 with ⟨rfl, _⟩ | ⟨g', cap, cur, rfl, _, hgb, _⟩
  · simp [Value.ownBlock]
  · intro e'
    obtain rfl : g = g' := by simpa [Value.ownBlock] using e'
    have h1 : W.heap[g]? = some (.cells cs t (0, 0)) := h
    rw [hgb] at h1
    simp at h1
    exact hte h1.2.symm
/-- A row's growth leaves other blocks as they lay. -/
theorem Blk.grew {W w3 : World} {g t e base size k : Nat} {cs : Array Value} {v : Value} {xs : List Value} {tmp : Obj} (h : Blk W g t cs) (hte : t ≠ e) (hr : W.ownsRow base e size v k xs) (hg : (W.alloc tmp).grownBy w3 v.ownBlock) : Blk w3 g t cs :=
  (hg.block g (h.alloc tmp).lt (h.not_row hte hr)).trans (h.alloc tmp)
theorem heap_grew {W w3 : World} {i e base size k : Nat} {o : Obj} {v : Value} {xs : List Value} {tmp : Obj} (h : W.heap[i]? = some o) (ho : o.isCells = false) (hr : W.ownsRow base e size v k xs) (hg : (W.alloc tmp).grownBy w3 v.ownBlock) : w3.heap[i]? = some o := by
  have h2 : (W.alloc tmp).heap[i]? = some o := below_heap h ((Below.refl _ W).alloc (Nat.le_refl _) tmp)
  refine (hg.block i (Array.getElem?_eq_some_iff.1 h2).1 (fun e' => ?_)).trans h2
  rcases hr.2 with ⟨rfl, _⟩ | ⟨g', cap, cur, rfl, _, hgb, _⟩
  · simp [Value.ownBlock] at e'
  · obtain rfl : i = g' := by simpa [Value.ownBlock] using e'
    rw [hgb] at h; cases h; cases ho
/-- One more row. -/
theorem mid_step {w : World} {bs : List UInt8} {r : Loop} {k s g : Nat} {W w3 : World} {v v' : Value} {vs : List Value} {xss : List (List UInt8)} {tmp : Obj}
    (hM : Mid w bs r k W) (hv : Boxed W (w.heap.size + 3) 29 v) (hrow : W.ownsRow w.heap.size 22 1 v xss.length vs) (hels : Els W vs xss) (hxk : xss.length ≤ k)
    (hall : Frm.all bs = (xss ++ (Frm.all (bs.drop k)).1, k + (Frm.all (bs.drop k)).2.1, (Frm.all (bs.drop k)).2.2)) (he : Frm.err (bs.drop k) = 0) (hs : Frm.hd (bs.drop k) = s)
    (hB : Blk W g 5 ((Frm.body (bs.drop k)).map Bv).toArray) (hown' : w3.ownsRow w.heap.size 22 1 v' (xss.length + 1) (vs ++ [.slice (some ⟨g, 0, none⟩) s s])) (hgrow : (W.alloc tmp).grownBy w3 v.ownBlock)
    (z : Int) (hz : z = ((k + (10 + s) : Nat) : Int)) :
    Mid w bs r (k + (10 + s)) ((w3.setCell ⟨w.heap.size + 3, 0, none⟩ v').setCell ⟨w.heap.size + 4, 0, none⟩ (.int .i64 z)) := by
  subst hz
  have b3 : Boxed w3 (w.heap.size + 3) 29 v := Blk.grew hv (by decide) hrow hgrow
  have b4 : Boxed w3 (w.heap.size + 4) 3 _ := Blk.grew hM.fin (by decide) hrow hgrow
  have b0 : Boxed w3 w.heap.size 29 _ := Blk.grew hM.res0 (by decide) hrow hgrow
  have b1 : Boxed w3 (w.heap.size + 1) 3 _ := Blk.grew hM.res1 (by decide) hrow hgrow
  have b2 : Boxed w3 (w.heap.size + 2) 24 _ := Blk.grew hM.res2 (by decide) hrow hgrow
  have d4 : Boxed (w3.setCell ⟨w.heap.size + 3, 0, none⟩ v') (w.heap.size + 4) 3 _ := b4.other (by omega) _
  have hels3 : Els w3 vs xss := hels.map fun _ _ hg => hg.grew (by decide) hrow hgrow
  have hels4 := hels3.snoc (Frm.body (bs.drop k)) g s (by rw [Frm.body_length he, hs]) (hB.grew (by decide) hrow hgrow)
  have hb3 : Below w.heap.size w w3 := by
    refine (hM.below.alloc hM.below.size tmp).grown hgrow (by have := hM.below.size; simp; omega) fun j ej => ?_
    rcases hrow.2 with ⟨rfl, _⟩ | ⟨g', cap, cur, rfl, hb, _, _⟩
    · simp [Value.ownBlock] at ej
    · obtain rfl : g' = j := by simpa [Value.ownBlock] using ej
      exact hb
  refine ⟨(hb3.setCell (by simp) _).setCell (by simp) _, (b0.other (by omega) _).other (by omega) _, (b1.other (by omega) _).other (by omega) _, (b2.other (by omega) _).other (by omega) _, d4.set _,
    heap_set _ (heap_set _ (heap_grew hM.defs rfl hrow hgrow) (by omega)) (by omega), heap_set _ (heap_set _ (heap_grew hM.loop rfl hrow hgrow) (by omega)) (by omega),
    v', vs ++ [.slice (some ⟨g, 0, none⟩) s s], xss ++ [Frm.body (bs.drop k)], (b3.set _).other (by omega) _, ?_, els_set d4 (by decide) (els_set b3 (by decide) hels4), by simp; omega, ?_⟩
  · rw [List.length_append]
    exact row_set d4 (by decide) (row_set b3 (by decide) hown')
  · rw [hall, Frm.all_good he, List.drop_drop, show Frm.size (bs.drop k) = 10 + s by unfold Frm.size; rw [hs]]
    simp; omega
theorem out_put {w X : World} {bs : List UInt8} {r : Loop} (r' : Loop) {v : Value} {vs : List Value} {xss : List (List UInt8)} {k x : Nat} (x0 : Boxed X w.heap.size 29 v) (x1 : Boxed X (w.heap.size + 1) 3 (.int .i64 (k : Int))) (x2 : Boxed X (w.heap.size + 2) 24 (.int .i64 (x : Int)))
    (x3 : Below w.heap.size w X) (x4 : X.ownsRow w.heap.size 22 1 v xss.length vs) (x5 : Els X vs xss) (x6 : X.heap[w.heap.size + 6]? = some (.deferred (some []))) (hl : X.heap[w.heap.size + 7]? = some (.loop r)) (hall : Frm.all bs = (xss, k, x)) :
    Out w bs r' (X.putObj (w.heap.size + 7) (.loop r')) := by
  refine ⟨x3.trans (belowK_b (w := w) (Nat.le_refl _) X _ _ _ (by omega) hl rfl rfl), put_other x6 (by omega), put_same hl, ⟨v, vs, ?_, ?_, put_other x0 (by omega)⟩, ?_, ?_⟩
  · rw [hall]; exact ownsRow_putObj x4 _ hl rfl
  · rw [hall]
    refine x5.map fun g cs hg => put_other hg (fun e => ?_)
    have h1 : X.heap[g]? = some (.cells cs 5 (0, 0)) := hg
    rw [e, hl] at h1; cases h1
  · rw [hall]; exact put_other x1 (by omega)
  · rw [hall]; exact put_other x2 (by omega)
theorem alloc_new (w : World) (o : Obj) (n : Nat) (h : w.heap.size = n) : (w.alloc o).heap[n]? = some o := by subst h; exact World.alloc_heap_new w o
theorem alloc_old {w : World} {i : Nat} {o' : Obj} (o : Obj) (h : w.heap[i]? = some o') : (w.alloc o).heap[i]? = some o' := below_heap h ((Below.refl _ w).alloc (Nat.le_refl _) o)
theorem start_blocks (w : World) (o0 o1 o2 o3 o4 o5 o6 o7 : Obj) (W : World) (h : W = (((((((w.alloc o0).alloc o1).alloc o2).alloc o3).alloc o4).alloc o5).alloc o6).alloc o7) :
    W.heap[w.heap.size]? = some o0 ∧ W.heap[w.heap.size + 1]? = some o1 ∧ W.heap[w.heap.size + 2]? = some o2 ∧ W.heap[w.heap.size + 3]? = some o3 ∧ W.heap[w.heap.size + 4]? = some o4 ∧ W.heap[w.heap.size + 5]? = some o5 ∧
    W.heap[w.heap.size + 6]? = some o6 ∧ W.heap[w.heap.size + 7]? = some o7 ∧ Below w.heap.size w W := by
  subst h
  exact ⟨(alloc_old _ (alloc_old _ (alloc_old _ (alloc_old _ (alloc_old _ (alloc_old _ (alloc_old _ (alloc_new _ _ _ (by simp))))))))), (alloc_old _ (alloc_old _ (alloc_old _ (alloc_old _ (alloc_old _ (alloc_old _ (alloc_new _ _ _ (by simp)))))))), (alloc_old _ (alloc_old _ (alloc_old _ (alloc_old _ (alloc_old _ (alloc_new _ _ _ (by simp))))))), (alloc_old _ (alloc_old _ (alloc_old _ (alloc_old _ (alloc_new _ _ _ (by simp)))))), (alloc_old _ (alloc_old _ (alloc_old _ (alloc_new _ _ _ (by simp))))), (alloc_old _ (alloc_old _ (alloc_new _ _ _ (by simp)))), (alloc_old _ (alloc_new _ _ _ (by simp))), (alloc_new _ _ _ (by simp)),
    (((((((((Below.refl _ w).alloc (Nat.le_refl _) _).alloc (by simp) _).alloc (by simp; omega) _).alloc (by simp; omega) _).alloc (by simp; omega) _).alloc (by simp; omega) _).alloc (by simp; omega) _).alloc (by simp; omega) _)⟩
set_option maxRecDepth 100000 in
set_option maxHeartbeats 1000000 in
theorem all_in (m : Nat) (A : Option Addr) (bs : List UInt8) (n cap : Nat) (hn : bs.length = n) (hc : n ≤ cap) (hm : n ≤ 140737488351232) (hnn : n ≤ 4294967296) (w : World) (rd : Rd w A bs) :
    CallsIn Fence.wide m Try.prog 13 #[.slice A n cap] w fun e w' => ∃ B c, e = .returned (.tuple #[.slice B (Frm.all bs).1.length c, .int .i64 ((Frm.all bs).2.1 : Int), .int .i64 ((Frm.all bs).2.2 : Int)]) ∧
      (Frm.all bs).1.length ≤ c ∧ RdL w' B (Frm.all bs).1 ∧ Below w.heap.size w w' := by
  have HN := Lib.hid hn
  clear hn
  refine callsIn_of_wp_marks Try.func13 rfl trivial ?_ rfl
  simp only [Try.ntmps13, List.size_toArray, List.length_cons, List.length_nil, Nat.reduceAdd, Nat.reduceSub, Array.replicate_succ, Array.replicate_zero, List.push_toArray, List.append_toArray, List.nil_append, List.cons_append]
  gi_wp2
  refine ⟨trivial, fun h => (by cases h), (frames_in A n cap _ _).mono ?_⟩
  rintro e w' ⟨rfl, rfl⟩
  gi_wp2
  refine range_law (gf := 30) (lb := #[.pointer (some ⟨w.heap.size + 5, 0, none⟩)]) (w.heap.size + 6) (by simp) rfl (enters_of Try.func30 (by kernel_rfl) rfl) fun fn R hR W1 hW1 => ?_
  have HR := Lib.hid hR
  clear hR
  refine (frames1_in (m - 1) (w.heap.size + 6 + 1) (w.heap.size + 5) w A bs n cap HN.out hc hm rd (Mid w bs (R .ready none)) (Out w bs (R .done (some .ret))) (fun k W h => h.below) (fun k W W' h hb => h.on hb) ?_ ?_ W1 ?_ ?_).mono ?_
  · intro k g s W hM hk he hs hg hB
    clear hW1
    refine round_law hM.loop (by rw [HR.out]; rfl) (by rw [HR.out]) (by rw [HR.out]) (by rw [HR.out]) (by rw [HR.out]) rfl ?_
    dsimp only [lrec]
    gi_wp2
    refine ⟨alloc_old _ hM.loop, fun w₂ hw₂ => ?_⟩
    have hF := alloc_new W (.cells #[.slice (some ⟨g, 0, none⟩) s s, .int .i64 (10 + (s : Int)), .int .i64 0] 53) _ rfl
    have hlt := hM.loop
    have hlt' := (Array.getElem?_eq_some_iff.1 hM.loop).1
    have hF2 : Blk w₂ W.heap.size 53 #[.slice (some ⟨g, 0, none⟩) s s, .int .i64 (10 + (s : Int)), .int .i64 0] := by rw [hw₂]; exact put_other hF (by omega)
    have hB2 : Blk w₂ g 5 ((Frm.body (bs.drop k)).map Bv).toArray := by
      rw [hw₂]
      refine put_other (alloc_old _ hB) (fun e => ?_)
      have h1 : W.heap[g]? = _ := hB
      rw [e, hM.loop] at h1; cases h1
    have hM2 := (hM.on ((Below.refl _ W).alloc (Nat.le_refl _) (.cells #[.slice (some ⟨g, 0, none⟩) s s, .int .i64 (10 + (s : Int)), .int .i64 0] 53))).put { R .ready none with state := .busy }
    rw [← show w₂ = _ from hw₂] at hM2
    obtain ⟨v, vs, xss, hv, hrow, hels, hxk, hall⟩ := hM2.rows
    clear hw₂ hF hlt
    have HM := Lib.hid hM2
    have HALL := Lib.hid hall
    have HE := Lib.hid he
    have HS := Lib.hid hs
    have f0 := hF2.cell 0
    have f1 := hF2.cell 1
    have f2 := hF2.cell 2
    have hsz := hM2.below.size
    have c3 : w₂.cell? ⟨w.heap.size + 1 + 1 + 1, 0, none⟩ = _ := hv.cell
    have c4 : w₂.cell? ⟨w.heap.size + 1 + 1 + 1 + 1, 0, none⟩ = _ := hM2.fin.cell
    have hs8 : s ≤ 8192 := by have := (Frm.err_ok he).2.2.1; omega
    have hle : w.heap.size + 7 < W.heap.size := by omega
    clear hM2 hall he hs hM hB
    obtain ⟨i0, hi, hz0, hz1, hz2⟩ := info_parts row_info
    simp at f0 f1 f2
    gi_wp2_with (gi_at_builtin; refine wpListIn_append_own _ rfl _ _ 29 rfl w.heap.size 22 i0 (.slice none 0 0) 1 24 Try.underlying29 hi hz0 hz1 hz2 rfl (by decide) _ _ _ rfl (hrow.alloc _) ⟨w₂.heap.size, 0, none⟩ 1 1 [.slice (some ⟨g, 0, none⟩) s s] rfl rfl (cell_one_new _ _ _) (by simp [Value.oneCell']) (by unfold maxLen; omega) (by omega) (by simp; omega) ?_; intro v' w3 hown' hgrow _; obtain ⟨g', cap', rfl⟩ := ownsRow_succ hown'; have hc3 : w3.cell? ⟨w.heap.size + 1 + 1 + 1, 0, none⟩ = _ := Boxed.cell (Blk.grew hv (by decide) hrow hgrow); have hf3 : w3.frozen? ⟨w.heap.size + 1 + 1 + 1, 0, none⟩ = _ := Boxed.frozen (Blk.grew hv (by decide) hrow hgrow); have hc4 : w3.cell? ⟨w.heap.size + 1 + 1 + 1 + 1, 0, none⟩ = _ := Boxed.cell (Blk.grew HM.out.fin (by decide) hrow hgrow); have hf4 : w3.frozen? ⟨w.heap.size + 1 + 1 + 1 + 1, 0, none⟩ = _ := Boxed.frozen (Blk.grew HM.out.fin (by decide) hrow hgrow); have hg1 := (hF2.grew (by decide) hrow hgrow).cell 1)
    have hM5 := mid_step HM.out hv hrow hels hxk HALL.out HE.out HS.out hB2 hown' hgrow ((k : Int) + (10 + (s : Int))) (by omega)
    have hrr : ({ ({ R .ready none with state := .busy } : Loop) with state := if (none : Option Code).isNone then .ready else .done, pending := none } : Loop) = R .ready none := by rw [HR.out]; rfl
    have hend := run_endRound (P := Try.prog) none hM5.loop
    rw [hrr] at hend
    exact ⟨_, _, hend, rfl, hM5.put _⟩
  · intro k x W hM hk hx he
    clear hW1
    refine round_law hM.loop (by rw [HR.out]; rfl) (by rw [HR.out]) (by rw [HR.out]) (by rw [HR.out]) (by rw [HR.out]) rfl ?_
    dsimp only [lrec]
    gi_wp2
    refine ⟨alloc_old _ hM.loop, fun w₂ hw₂ => ?_⟩
    have hF := alloc_new W (.cells #[.slice none 0 0, .int .i64 0, .int .i64 (x : Int)] 53) _ rfl
    have hlt' := (Array.getElem?_eq_some_iff.1 hM.loop).1
    have hF2 : Blk w₂ W.heap.size 53 #[.slice none 0 0, .int .i64 0, .int .i64 (x : Int)] := by rw [hw₂]; exact put_other hF (by omega)
    have hM2 := (hM.on ((Below.refl _ W).alloc (Nat.le_refl _) (.cells #[.slice none 0 0, .int .i64 0, .int .i64 (x : Int)] 53))).put { R .ready none with state := .busy }
    rw [← show w₂ = _ from hw₂] at hM2
    obtain ⟨v, vs, xss, hv, hrow, hels, hxk, hall⟩ := hM2.rows
    have hne : bs.drop k ≠ [] := by
      intro h
      have hl : (bs.drop k).length = 0 := by rw [h]; rfl
      rw [List.length_drop, HN.out] at hl; omega
    rw [Frm.all_bad hne (by rw [hx]; exact he), hx] at hall
    simp only [List.append_nil, Nat.add_zero] at hall
    clear hw₂ hF hx hne
    have HT := Lib.hid (three_stored (a := .int .i64 (k : Int)) (x := .int .i64 (x : Int)) hM2.res0 hM2.res1 hM2.res2 hM2.below hrow hels hM2.defs _ rfl)
    have HL : Hid ((((w₂.setCell ⟨w.heap.size, 0, none⟩ v).setCell ⟨w.heap.size + 1, 0, none⟩ (.int .i64 (k : Int))).setCell ⟨w.heap.size + 1 + 1, 0, none⟩ (.int .i64 (x : Int))).drew.heap[w.heap.size + 6 + 1]? = some (.loop { R .ready none with state := .busy })) := heap_set _ (heap_set _ (heap_set _ hM2.loop (by omega)) (by omega)) (by omega)
    have HALL := Lib.hid hall
    clear hall
    have f2 := hF2.cell 2
    have c0 : w₂.cell? ⟨w.heap.size, 0, none⟩ = _ := hM2.res0.cell
    have c1 : w₂.cell? ⟨w.heap.size + 1, 0, none⟩ = _ := hM2.res1.cell
    have c2 : w₂.cell? ⟨w.heap.size + 1 + 1, 0, none⟩ = _ := hM2.res2.cell
    have c3 : w₂.cell? ⟨w.heap.size + 1 + 1 + 1, 0, none⟩ = _ := hv.cell
    have c4 : w₂.cell? ⟨w.heap.size + 1 + 1 + 1 + 1, 0, none⟩ = _ := hM2.fin.cell
    have g0 : w₂.frozen? ⟨w.heap.size, 0, none⟩ = _ := hM2.res0.frozen
    have g1 : w₂.frozen? ⟨w.heap.size + 1, 0, none⟩ = _ := hM2.res1.frozen
    have g2 : w₂.frozen? ⟨w.heap.size + 1 + 1, 0, none⟩ = _ := hM2.res2.frozen
    have hxi : ((x : Int) != 0) = true := by simpa using he
    have n0 : ¬ W.heap.size = w.heap.size := by omega
    have n1 : ¬ W.heap.size = w.heap.size + 1 := by omega
    have n2 : ¬ W.heap.size = w.heap.size + 1 + 1 := by omega
    have hmix : Try.prog.follows .mixedOrders = true := by kernel_rfl
    obtain ⟨A3, cp, rfl⟩ : ∃ A3 cp, v = .slice A3 xss.length cp := by
      rcases hrow.2 with ⟨rfl, h0⟩ | ⟨g, cap, _, rfl, _⟩
      · exact ⟨none, 0, by rw [h0]⟩
      · exact ⟨_, _, rfl⟩
    clear hM2 hM hF2 hv hrow hels he
    simp at f2
    have HRR : Hid (({ ({ R .ready none with state := .busy } : Loop) with state := if (some Code.ret).isNone then .ready else .done, pending := some .ret } : Loop) = R .done (some .ret)) := by rw [Hid, HR.out]; rfl
    gi_wp2
    gi_region_with_o (fail)
    all_goals
      gi_wp2
      obtain ⟨x0, x1, x2, x3, x4, x5, x6⟩ := HT.out
      have hend := run_endRound (P := Try.prog) (some .ret) HL.out
      rw [HRR.out] at hend
      exact ⟨_, _, hend, rfl, out_put _ x0 x1 x2 x3 x4 x5 x6 HL.out HALL.out⟩
  · obtain ⟨_, _, _, _, _, h5, _⟩ := start_blocks w _ _ _ _ _ _ _ _ W1 hW1
    exact Boxed.cell h5
  · obtain ⟨h0, h1, h2, h3, h4, _, h6, h7, hb⟩ := start_blocks w _ _ _ _ _ _ _ _ W1 hW1
    exact ⟨hb, h0, h1, h2, h4, h6, h7, _, [], [], h3, World.ownsRow_nil _ _ _ _, Els.nil _, Nat.zero_le _, by simp⟩
  · rintro e W ⟨⟨v, rfl⟩, hM | hO⟩
    · refine ⟨⟨v, rfl⟩, none, hM.loop, ?_⟩
      intro W' hW'
      obtain ⟨v, vs, xss, hv, hrow, hels, hxk, hall⟩ := hM.rows
      have hK : W'.heap[w.heap.size + 6]? = some (.deferred (some [])) := by rw [hW']; exact put_other hM.defs (by omega)
      have c0 : Boxed W' w.heap.size 29 (.slice none 0 0) := by rw [hW']; exact put_other hM.res0 (by omega)
      have c1 : Boxed W' (w.heap.size + 1) 3 (.int .i64 0) := by rw [hW']; exact put_other hM.res1 (by omega)
      have c2 : Boxed W' (w.heap.size + 2) 24 (.int .i64 0) := by rw [hW']; exact put_other hM.res2 (by omega)
      have c3 : Boxed W' (w.heap.size + 3) 29 v := by rw [hW']; exact put_other hv (by omega)
      have c4 : Boxed W' (w.heap.size + 4) 3 (.int .i64 (n : Int)) := by rw [hW']; exact put_other hM.fin (by omega)
      have d0 : W'.cell? ⟨w.heap.size, 0, none⟩ = _ := c0.cell
      have d1 : W'.cell? ⟨w.heap.size + 1, 0, none⟩ = _ := c1.cell
      have d2 : W'.cell? ⟨w.heap.size + 1 + 1, 0, none⟩ = _ := c2.cell
      have d3 : W'.cell? ⟨w.heap.size + 1 + 1 + 1, 0, none⟩ = _ := c3.cell
      have d4 : W'.cell? ⟨w.heap.size + 1 + 1 + 1 + 1, 0, none⟩ = _ := c4.cell
      have f0 : W'.frozen? ⟨w.heap.size, 0, none⟩ = _ := c0.frozen
      have f1 : W'.frozen? ⟨w.heap.size + 1, 0, none⟩ = _ := c1.frozen
      have f2 : W'.frozen? ⟨w.heap.size + 1 + 1, 0, none⟩ = _ := c2.frozen
      have hB' : Below w.heap.size w W' := by
        rw [hW']
        exact hM.below.trans (belowK_b (w := w) (Nat.le_refl _) W _ _ _ (by omega) hM.loop rfl rfl)
      have hrow' : W'.ownsRow w.heap.size 22 1 v xss.length vs := by rw [hW']; exact ownsRow_putObj hrow _ hM.loop rfl
      have hels' : Els W' vs xss := by
        rw [hW']
        exact hels.map fun g cs hg => put_other hg (fun e => by
          have h1 : W.heap[g]? = some (.cells cs 5 (0, 0)) := hg
          rw [e, hM.loop] at h1; cases h1)
      rw [List.drop_eq_nil_of_le (by rw [HN.out]; exact Nat.le_refl _), Frm.all_nil] at hall
      simp only [List.append_nil, Nat.add_zero] at hall
      have HT := Lib.hid (three_stored (a := .int .i64 (n : Int)) (x := .int .i64 0) c0 c1 c2 hB' hrow' hels' hK _ rfl)
      have HALL := Lib.hid hall
      clear hall hW' c0 c1 c2 c3 c4 hels hrow hv hK hels'
      have hmix : Try.prog.follows .mixedOrders = true := by kernel_rfl
      obtain ⟨A3, cp, rfl⟩ : ∃ A3 cp, v = .slice A3 xss.length cp := by
        rcases hrow'.2 with ⟨rfl, h0⟩ | ⟨g, cap, _, rfl, _⟩
        · exact ⟨none, 0, by rw [h0]⟩
        · exact ⟨_, _, rfl⟩
      gi_wp2
      gi_region_with_o (fail)
      all_goals
        obtain ⟨x0, x1, x2, x3, x4, x5, x6⟩ := HT.out
        gi_wp2
        exact all_leave (a := n) (x := 0) x0 x1 x2 x3 (by rw [HALL.out]; exact x4) (by rw [HALL.out]; exact x5) x6 (by rw [HALL.out]) (by rw [HALL.out]) _ _ _
    · refine ⟨⟨v, rfl⟩, some .ret, hO.loop, ?_⟩
      intro W' hW'
      obtain ⟨v, vs, hrow, hels, hv⟩ := hO.rows
      have HW' := Lib.hid hW'
      clear hW'
      gi_wp2
      rw [HW'.out]
      refine all_leave (v := v) (vs := vs) (put_other hv (by omega)) (put_other hO.res1 (by omega)) (put_other hO.res2 (by omega)) (hO.below.trans (belowK_b (w := w) (Nat.le_refl _) W _ _ _ (by omega) hO.loop rfl rfl)) (ownsRow_putObj hrow _ hO.loop rfl) (hels.map fun g cs hg => put_other hg (fun e => ?_)) (put_other hO.defs (by omega)) rfl rfl _ _ _
      have h1 : W.heap[g]? = some (.cells cs 5 (0, 0)) := hg
      rw [e, hO.loop] at h1; cases h1
theorem all_at (A : Option Addr) (bs : List UInt8) (n k c1 c2 cap : Nat) (xss : List (List UInt8)) (hn : bs.length = n) (hc : n ≤ cap) (hm : n ≤ 140737488351232) (hnn : n ≤ 4294967296) (w : World) (rd : Rd w A bs) (hall : Frm.all bs = (xss, c1, c2)) (hk : xss.length = k) :
    Calls Try.prog 13 #[.slice A n cap] w fun e w' => ∃ B c, e = .returned (.tuple #[.slice B k c, .int .i64 (c1 : Int), .int .i64 (c2 : Int)]) ∧ k ≤ c ∧ RdL w' B xss ∧ Below w.heap.size w w' := by
  have := callsIn_wide.1 (all_in 0 A bs n cap hn hc hm hnn w rd)
  rw [hall] at this
  subst hk
  exact this
end Go.Proofs.Ytncpbmokbnjjoaa
