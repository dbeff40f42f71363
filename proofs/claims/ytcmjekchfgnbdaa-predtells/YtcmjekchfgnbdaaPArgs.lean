/- Arguments, opened: a predicate (a text, an integer, and a value), by value. -/
import Derived.Test.YtcmjekchfgnbdaaVArgs
import Derived.Deep.Slices
import Derived.Deep.Strs
import Derived.ChangeSlices
namespace Go.Proofs.Ytcmjekchfgnbdaa
open Go.RowKit Go.ChangeShapes Go.WideShapes Go.Deep Go.Joins
section
variable {H : Type} {enc : TypeId × Value → H} {P : Program} {w : World} {base : Nat} {spare : Nat → Bool} {held : Bool}
theorem open_pred_of {r : Reach} {b0 : Nat} {t tn tp tv t0 t1 t2 : TypeId} {fn fp fv f0 f1 f2 : Field} {v : Value} {d : DataW H} {p : List MemPlace} (hs : P.underlying t = some (.struct #[fn, fp, fv])) (hC : P.cellsOf t = 5)
    (hfn : fn.type = tn ∧ fn.offset = 0 ∧ P.cellsOf tn = 1) (hfp : fp.type = tp ∧ fp.offset = 1 ∧ P.cellsOf tp = 1) (hfv : fv.type = tv ∧ fv.offset = 2 ∧ P.cellsOf tv = 3)
    (hn : P.underlying tn = some .string) (hp : P.underlying tp = some (.int .i64)) (hv : P.underlying tv = some (.struct #[f0, f1, f2]))
    (hf0 : f0.type = t0 ∧ f0.offset = 0 ∧ P.cellsOf t0 = 1) (hf1 : f1.type = t1 ∧ f1.offset = 1 ∧ P.cellsOf t1 = 1) (hf2 : f2.type = t2 ∧ f2.offset = 2 ∧ P.cellsOf t2 = 1)
    (h0 : P.underlying t0 = some (.int .i64)) (h1 : P.underlying t1 = some (.int .i64)) (h2 : P.underlying t2 = some .string)
    (hok : Value.okWide P w r b0 t v) (h : DataW.Trod enc P w base spare held t v d p) :
    ∃ (n : List UInt8) (o k i : Int) (s : List UInt8), v = .agg #[.string ⟨n.toArray⟩, .int .i64 o, .int .i64 k, .int .i64 i, .string ⟨s.toArray⟩] ∧ n.length ≤ maxLen ∧ (Lit.int .i64 o).wf = true ∧ (Lit.int .i64 k).wf = true ∧ (Lit.int .i64 i).wf = true ∧ s.length ≤ maxLen := by
  obtain ⟨cs, rfl, hsz⟩ := okWide_struct hs hok
  rw [hC] at hsz
  obtain ⟨cs⟩ := cs
  obtain ⟨fuel, k2⟩ := h
  obtain ⟨xs, n', _, _, _, hxl, hfs⟩ := DataW.trod_struct hs k2
  match cs, hsz with
  | [c0, c1, c2, c3, c4], _ =>
    have g0 := hfs 0 fn rfl
    have g1 := hfs 1 fp rfl
    have g2 := hfs 2 fv rfl
    obtain ⟨e0, o0, s0⟩ := hfn
    obtain ⟨e1, o1, s1⟩ := hfp
    obtain ⟨e2, o2, s2⟩ := hfv
    rw [e0, o0, s0] at g0
    rw [e1, o1, s1] at g1
    rw [e2, o2, s2] at g2
    have hxs0 : xs[0]? = some (xs[0]'(by rw [hxl]; simp)) := List.getElem?_eq_getElem _
    have hxs1 : xs[1]? = some (xs[1]'(by rw [hxl]; simp)) := List.getElem?_eq_getElem _
    have hxs2 : xs[2]? = some (xs[2]'(by rw [hxl]; simp)) := List.getElem?_eq_getElem _
    rw [hxs0] at g0
    rw [hxs1] at g1
    rw [hxs2] at g2
    obtain ⟨⟨⟨zn⟩⟩, q0, _, r0⟩ := DataW.trod_string hn g0
    obtain ⟨zo, q1, _, r1⟩ := DataW.trod_int hp g1
    obtain ⟨ys, n'', _, _, _, hyl, hfs2⟩ := DataW.trod_struct hv g2
    have j0 := hfs2 0 f0 rfl
    have j1 := hfs2 1 f1 rfl
    have j2 := hfs2 2 f2 rfl
    obtain ⟨e0, o0, s0⟩ := hf0
    obtain ⟨e1, o1, s1⟩ := hf1
    obtain ⟨e2, o2, s2⟩ := hf2
    rw [e0, o0, s0] at j0
    rw [e1, o1, s1] at j1
    rw [e2, o2, s2] at j2
    have hys0 : ys[0]? = some (ys[0]'(by rw [hyl]; simp)) := List.getElem?_eq_getElem _
    have hys1 : ys[1]? = some (ys[1]'(by rw [hyl]; simp)) := List.getElem?_eq_getElem _
    have hys2 : ys[2]? = some (ys[2]'(by rw [hyl]; simp)) := List.getElem?_eq_getElem _
    rw [hys0] at j0
    rw [hys1] at j1
    rw [hys2] at j2
    obtain ⟨zk, p0, _, w0⟩ := DataW.trod_int h0 j0
    obtain ⟨zi, p1, _, w1⟩ := DataW.trod_int h1 j1
    obtain ⟨⟨⟨zt⟩⟩, p2, _, r2⟩ := DataW.trod_string h2 j2
    simp [Value.cells] at q0 q1 p0 p1 p2
    subst q0; subst q1; subst p0; subst p1; subst p2
    exact ⟨zn, zo, zk, zi, zt, rfl, r0, r1, w0, w1, r2⟩
end
end Go.Proofs.Ytcmjekchfgnbdaa
