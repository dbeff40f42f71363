/- Values that lie in a block: a value laid over another one, the last ones cleared. -/
import Derived.Test.YtcgmbgfbhdimeaaSSort
import Derived.Lib.SliceRun
namespace Go.Proofs.Ytcgmbgfbhdimeaa
open Go.RowKit Go.Sort Spans
theorem Lies.at3 {w : World} {g : Nat} {es : List Val} {sp : List Value} (h : Lies w g es sp) {k : Nat} (hk : k < es.length) :
    w.cell? ⟨g, k * 3, none⟩ = some (.int .i64 es[k].k) ∧ w.cell? ⟨g, k * 3 + 1, none⟩ = some (.int .i64 es[k].i) ∧ w.cell? ⟨g, k * 3 + 2, none⟩ = some (.string ⟨es[k].t.toArray⟩) := by
  obtain ⟨g', off, e, _, c0, c1, c2⟩ := RdW.at3 h.rd hk
  injection e with e
  injection e with e1 e2
  subst e1; subst e2
  rw [Nat.zero_add] at c0 c1 c2
  exact ⟨c0, c1, c2⟩
theorem flat_set (x : Val) (sp : List Value) : ∀ (cs : List Val) (i : Nat), i < cs.length →
    (((cs.flatMap cellsV ++ sp).set (i * 3) (.int .i64 x.k)).set (i * 3 + 1) (.int .i64 x.i)).set (i * 3 + 2) (.string ⟨x.t.toArray⟩) = (cs.set i x).flatMap cellsV ++ sp
  | [], _, h => by simp at h
  | y :: r, 0, _ => by simp [cellsV]
  | y :: r, i + 1, h => by
    have ih := flat_set x sp r i (by simpa using h)
    rw [show (i + 1) * 3 = i * 3 + 1 + 1 + 1 by omega]
    simp only [List.flatMap_cons, cellsV, List.cons_append, List.nil_append, List.set_cons_succ]
    rw [ih]
theorem Lies.set {w : World} {g : Nat} {cs : List Val} {sp : List Value} (h : Lies w g cs sp) (i : Nat) (hi : i < cs.length) (x : Val) :
    Lies (((w.setCell ⟨g, i * 3, none⟩ (.int .i64 x.k)).setCell ⟨g, i * 3 + 1, none⟩ (.int .i64 x.i)).setCell ⟨g, i * 3 + 2, none⟩ (.string ⟨x.t.toArray⟩)) g (cs.set i x) sp := by
  have h3 := ((Blk.put h (i * 3) (.int .i64 x.k)).put (i * 3 + 1) (.int .i64 x.i)).put (i * 3 + 2) (.string ⟨x.t.toArray⟩)
  unfold Lies
  rw [← flat_set x sp cs i hi]
  simpa using h3
theorem touch_set3 (w : World) (g i j k : Nat) (a b c : Value) : Touch g w (((w.setCell ⟨g, i, none⟩ a).setCell ⟨g, j, none⟩ b).setCell ⟨g, k, none⟩ c) := (((Touch.refl g w).set_ i a).set_ j b).set_ k c
theorem touch_setRow (w : World) (g : Nat) (cs : Array Value) : Touch g w (w.setRow g cs) :=
  ⟨rfl, rfl, rfl, by simp [World.setRow], fun k _ hne => setRow_other w g k cs (fun h => hne (by rw [h]))⟩
theorem Touch.drewN {g : Nat} {a w : World} (h : Touch g a w) (n : Nat) : Touch g a (w.drewN n) := ⟨h.os, h.tape, h.output, h.size, h.block⟩
theorem Touch.drew {g : Nat} {a w : World} (h : Touch g a w) : Touch g a w.drew := ⟨h.os, h.tape, h.output, h.size, h.block⟩
theorem Lies.drew {w : World} {g : Nat} {cs : List Val} {sp : List Value} (h : Lies w g cs sp) : Lies w.drew g cs sp := h
theorem zeroV (w : World) : (zeroValue 24).run Try.prog w = .ok (.agg #[.int .i64 0, .int .i64 0, .string ⟨#[]⟩]) w := by kernel_rfl
theorem Lies.clear {w : World} {g : Nat} {cs : List Val} {sp : List Value} (h : Lies w g cs sp) (i n : Nat) (hn : cs.length = n) (hi : i < n) (c : Nat) :
    ∃ w' sp', (∀ ty, (Builtin.clear_ #[27] ty #[.slice (some ⟨g, i * 3, none⟩) (n - i) c]).run Try.prog w = .ok (.tuple #[]) w') ∧ Lies w' g (cs.take i) sp' ∧ Touch g w w' ∧ i * 3 + sp'.length = n * 3 + sp.length := by
  subst hn
  have hl : (cs.flatMap cellsV).length = cs.length * 3 := flatL_length (L := layV) cs
  obtain ⟨Z, hZ⟩ : ∃ Z, (Builtin.zeroCells (Value.agg #[.int .i64 0, .int .i64 0, .string ⟨#[]⟩]).cells (cs.length - i)).toList = Z := ⟨_, rfl⟩
  have hZl : Z.length = (cs.length - i) * 3 := by rw [← hZ]; simp [size_zeroCells, Value.cells]
  have hZ1 : ∀ v ∈ Z, v.oneCell' = true := by
    intro v hv
    rw [← hZ] at hv
    simp only [Builtin.zeroCells, Value.cells, Array.toList_map, List.mem_map] at hv
    obtain ⟨j, _, rfl⟩ := hv
    have : j % 3 = 0 ∨ j % 3 = 1 ∨ j % 3 = 2 := by omega
    rcases this with e | e | e
    · show (#[Value.int .i64 0, .int .i64 0, .string ⟨#[]⟩][j % 3]!).oneCell' = true; rw [e]; rfl
    · show (#[Value.int .i64 0, .int .i64 0, .string ⟨#[]⟩][j % 3]!).oneCell' = true; rw [e]; rfl
    · show (#[Value.int .i64 0, .int .i64 0, .string ⟨#[]⟩][j % 3]!).oneCell' = true; rw [e]; rfl
  have hst := run_storeCells_at Try.prog g (i * 3) 24 Z 0 _ w h (by simp only [List.size_toArray, List.length_append, hl, hZl]; omega) hZ1
  have e1 : (cs.flatMap cellsV ++ sp).take (i * 3) = (cs.take i).flatMap cellsV := by
    have : (cs.take i).flatMap cellsV ++ (cs.drop i).flatMap cellsV = cs.flatMap cellsV := by rw [← List.flatMap_append, List.take_append_drop]
    rw [← this, List.append_assoc]
    exact List.take_left' (by rw [show ((cs.take i).flatMap cellsV).length = (cs.take i).length * 3 from flatL_length (L := layV) _]; simp; omega)
  have e2 : i * 3 + Z.length = cs.length * 3 := by omega
  obtain ⟨sp', hsp⟩ : ∃ sp', Z ++ (cs.flatMap cellsV ++ sp).drop (cs.length * 3) = sp' := ⟨_, rfl⟩
  have hst' : (storeCells ⟨g, i * 3, none⟩ Z).run Try.prog w = .ok () (w.setRow g ((cs.take i).flatMap cellsV ++ sp').toArray) := by
    rw [hst, Nat.add_zero, show ((cs.flatMap cellsV ++ sp).toArray.toList) = cs.flatMap cellsV ++ sp from rfl, e1, e2, List.append_assoc, hsp]
  have hlen : i * 3 + sp'.length = cs.length * 3 + sp.length := by
    rw [← hsp]
    simp only [List.length_append, List.length_drop, hZl, hl]; omega
  refine ⟨w.setRow g ((cs.take i).flatMap cellsV ++ sp').toArray, sp', fun ty => ?_, setRow_heap w g _ _ _ _ h, touch_setRow w g _, hlen⟩
  obtain ⟨m, hm⟩ : ∃ m, cs.length - i = m + 1 := ⟨cs.length - i - 1, by omega⟩
  rw [hm] at hZ ⊢
  simp [Builtin.clear_, run_underlying Try.underlying27, hZ, hst']
theorem eqlV (x y : Val) (w : World) : (binOp .eql 24 (.agg (cellsV x).toArray) (.agg (cellsV y).toArray)).run Try.prog w = .ok (.bool (decide (x = y))) w := by
  simp only [cellsV]
  rw [run_eql_struct, eqV]
  simp only [Result.andThen_ok]
  congr 2
  by_cases h : x = y
  · subst h; simp
  · have : ¬ (x.k = y.k ∧ x.i = y.i ∧ x.t = y.t) := fun ⟨a, b, c⟩ => h (Val.ext_ a b c)
    simp [h, this]
end Go.Proofs.Ytcgmbgfbhdimeaa
