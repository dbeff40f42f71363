/- slices.SortFunc over values, by Compare; rows that lie in a block. -/
import Derived.Test.YtcgmbgfbhdimeaaSSrt
import Derived.Test.YtcgmbgfbhdimeaaRowK
import Derived.Test.YtcgmbgfbhdimeaaSRow
import Derived.Test.YtcgmbgfbhdimeaaVComp
namespace Go.Proofs.Ytcgmbgfbhdimeaa
open Go.RowKit Go.Sort Go.Shelf Go.Lib Spans
/-- Values that lie at a block's begin, and what lies behind them. -/
def Lies (w : World) (g : Nat) (es : List Val) (sp : List Value) : Prop := Blk w g 24 (es.flatMap cellsV ++ sp).toArray
theorem Lies.rd {w : World} {g : Nat} {es : List Val} {sp : List Value} (h : Lies w g es sp) : RdW w (some ⟨g, 0, none⟩) es :=
  rdk_of_flat (L := layV) h (by
    rw [show (es.flatMap cellsV ++ sp).toArray.toList = es.flatMap cellsV ++ sp from rfl]
    exact List.take_left' (flatL_length (L := layV) es))
theorem lies_of_own {w : World} {base : Nat} {v : Value} {es : List Val} (h : OwnW w base v es) : (v = .slice none 0 0 ∧ es = []) ∨ ∃ g cap sp, v = .slice (some ⟨g, 0, none⟩) es.length cap ∧ base ≤ g ∧ es.length ≤ cap ∧ cap ≤ maxLen ∧ Lies w g es sp ∧ es.length * 3 + sp.length = cap * 3 := by
  rcases h.2 with ⟨rfl, hn⟩ | ⟨g, cap, cur, rfl, hb, hg, hc, hm, hs, ht⟩
  · exact .inl ⟨rfl, List.eq_nil_of_length_eq_zero hn⟩
  · refine .inr ⟨g, cap, cur.toList.drop (es.length * 3), rfl, hb, hc, hm, ?_, ?_⟩
    · unfold Lies Blk
      have e : es.flatMap cellsV = cur.toList.take (es.length * 3) := ht.symm
      rw [e, List.take_append_drop]
      exact hg
    · have hs' : cur.size = cap * 3 := hs
      simp; omega
theorem own_of_lies {w : World} {base g cap : Nat} {es : List Val} {sp : List Value} (h : Lies w g es sp) (hb : base ≤ g) (hc : es.length ≤ cap) (hm : cap ≤ maxLen) (hs : es.length * 3 + sp.length = cap * 3) : OwnW w base (.slice (some ⟨g, 0, none⟩) es.length cap) es := by
  have hl : (es.flatMap cellsV).length = es.length * 3 := flatL_length (L := layV) es
  refine ⟨flatL_length es, .inr ⟨g, cap, _, rfl, hb, h, hc, hm, ?_, ?_⟩⟩
  · show (es.flatMap cellsV ++ sp).toArray.size = cap * 3
    simp only [List.size_toArray, List.length_append, hl]; exact hs
  · exact List.take_left' hl
def cfV (x y : Val) : Int := Vals.cmp x.k x.i x.t y.k y.i y.t
theorem ltOf_cfV (x y : Val) : ltOf cfV x y = true ↔ Vals.cmp x.k x.i x.t y.k y.i y.t < 0 := by
  unfold ltOf cfV; simp
theorem ltOf_cfV' (x y : Val) : ltOf cfV x y = false ↔ ¬ Vals.cmp x.k x.i x.t y.k y.i y.t < 0 := by
  rw [← ltOf_cfV]; simp
theorem val_eq_iff (x y : Val) : Vals.cmp x.k x.i x.t y.k y.i y.t = 0 ↔ x = y := by
  rw [Vals.cmp_zero]
  exact ⟨fun ⟨a, b, c⟩ => Val.ext_ a b c, fun h => by subst h; exact ⟨rfl, rfl, rfl⟩⟩
theorem swo_cfV : SWO (ltOf cfV) where
  irrefl x := by rw [ltOf_cfV', (val_eq_iff x x).2 rfl]; omega
  trans x y z h1 h2 := by
    rw [ltOf_cfV] at *
    have h3 := Vals.cmp_trans _ _ _ _ _ _ _ _ _ (Int.le_of_lt h1) (Int.le_of_lt h2)
    have h4 : Vals.cmp x.k x.i x.t z.k z.i z.t ≠ 0 := fun h => by
      have e := (val_eq_iff x z).1 h
      subst e
      have := Vals.cmp_neg y.k y.i y.t x.k x.i x.t
      omega
    omega
  ntrans x y z h1 h2 := by
    rw [ltOf_cfV'] at *
    have a1 := Vals.cmp_neg x.k x.i x.t y.k y.i y.t
    have a2 := Vals.cmp_neg y.k y.i y.t z.k z.i z.t
    have a3 := Vals.cmp_neg x.k x.i x.t z.k z.i z.t
    have h3 := Vals.cmp_trans z.k z.i z.t y.k y.i y.t x.k x.i x.t (by omega) (by omega)
    omega
theorem cmpLaysV (blk off size : Nat) (w : World) : CmpLays Try.prog 49 #[] cellsV 3 cfV blk off size w :=
  fun _ _ _ _ x y => compare_gr x.k x.i x.t y.k y.i y.t _
theorem lies_holds {w : World} {g : Nat} {es : List Val} {sp : List Value} (hB : Lies w g es sp) : HoldsK cellsV 3 w g 0 es.toArray := by
  unfold HoldsK Holds
  have e := flatL_flatK (L := layV) es
  rw [show flatK cellsV 3 es.toArray = (es.flatMap cellsV).toArray from e]
  intro j hj
  rw [Nat.zero_add]
  refine ⟨?_, hB.frozen j⟩
  have hj' : j < (es.flatMap cellsV).length := by simpa using hj
  rw [hB.cell j, getElem!_pos _ j hj]
  simp [List.getElem?_append_left hj']
theorem touch_sortWorld (g n : Nat) (w : World) (d : Array Val) (os : Array Obj) : Touch g w (sortWorldK cellsV 3 w g 0 n d os) := by
  refine ⟨rfl, rfl, rfl, by simp [sortWorldK, putRowK, putRow, mapBlock], fun k hk hne => ?_⟩
  have hne' : g ≠ k := fun h => hne (by rw [h])
  show ((w.heap.modify g _) ++ os)[k]? = _
  rw [Array.getElem?_append_left (by simp; omega), Array.getElem?_modify, if_neg hne']
theorem lies_sortWorld {g n : Nat} {w : World} {es out : List Val} {sp : List Value} {os : Array Obj} (hB : Lies w g es sp) (hl : out.length = es.length) :
    Lies (sortWorldK cellsV 3 w g 0 n out.toArray os) g out sp := by
  unfold Lies Blk
  have e := flatL_flatK (L := layV) out
  show ((w.heap.modify g (onCells (putCells id 0 (flatK cellsV 3 out.toArray)))) ++ os)[g]? = _
  rw [Array.getElem?_append_left (by simp; exact hB.lt), Array.getElem?_modify, if_pos rfl, hB, show flatK cellsV 3 out.toArray = (out.flatMap cellsV).toArray from e]
  simp only [Option.map_some, onCells, Option.some.injEq, Obj.cells.injEq, and_true]
  have l1 : (out.flatMap cellsV).length = out.length * 3 := flatL_length (L := layV) out
  have l2 : (es.flatMap cellsV).length = es.length * 3 := flatL_length (L := layV) es
  refine Array.ext ?_ fun k h1 h2 => ?_
  · rw [putCells, Array.size_mapIdx, List.size_toArray, List.size_toArray, List.length_append, List.length_append, l1, l2, hl]
  · simp only [putCells, Array.getElem_mapIdx, Nat.zero_le, true_and, Nat.zero_add, Nat.sub_zero]
    by_cases hk : k < (out.flatMap cellsV).length
    · have hk2 : k < (out.flatMap cellsV).toArray.size := by simpa using hk
      rw [if_pos hk2, getElem!_pos _ k hk2]
      simp [List.getElem_append_left hk]
    · have hk2 : ¬ k < (out.flatMap cellsV).toArray.size := by simpa using hk
      rw [if_neg hk2]
      simp only [List.getElem_toArray]
      rw [List.getElem_append_right (by omega), List.getElem_append_right (by omega)]
      congr 1
      omega
/-- Values that stand in order, some of which may be the same. -/
def SortedV (l : List Val) : Prop := l.Pairwise fun a b => Vals.cmp a.k a.i a.t b.k b.i b.t ≤ 0
theorem sortV_at (g : Nat) (es : List Val) (n cap : Nat) (sp : List Value) (hn : es.length = n) (hm : n ≤ 100000) (w : World) (hB : Lies w g es sp) :
    Calls Try.prog 59 #[.slice (some ⟨g, 0, none⟩) n cap, .func (.func 49) #[] #[]] w fun e w' =>
      e = .returned (.tuple #[]) ∧ ∃ out, out.Perm es ∧ SortedV out ∧ Lies w' g out sp ∧ Touch g w w' := by
  have eg : ∀ args w, (callFunc 49 args).run Try.prog w = .ok (.enter 49 args) w := enters_of Try.func49 (by kernel_rfl) rfl
  have hcon := AnyQ.slices_SortFunc Try.sortV 3 Try.isAgg24 Try.sizeOf24 cellsV (fun _ => rfl) (fun x v hv => layV.one x v hv) cfV swo_cfV 49 #[] g 0 cap es.toArray w eg (cmpLaysV g 0 _ w) (lies_holds hB) hB.lt (by simp; omega)
  subst hn
  refine Calls.mono hcon ?_
  rintro e w' ⟨rfl, d', q, os, hp, hs, rfl⟩
  obtain ⟨hsz, _, hperm⟩ := hp
  have hsz' : d'.toList.length = es.length := by simpa using hsz
  have hperm' : d'.toList.Perm es := by
    have e1 : d'.extract 0 es.toArray.size = d' := by rw [← hsz]; simp
    have e2 : es.toArray.extract 0 es.toArray.size = es.toArray := by simp
    rw [e1, e2] at hperm
    simpa using hperm
  refine ⟨rfl, d'.toList, hperm', ?_, ?_, touch_sortWorld _ _ _ _ _⟩
  · unfold SortedV
    rw [List.pairwise_iff_getElem]
    intro i j hi hj hij
    have := hs i j (Nat.zero_le _) hij (by simpa [← hsz'] using hj)
    have hi' : i < d'.size := by simpa using hi
    have hj' : j < d'.size := by simpa using hj
    rw [getElem!_pos d' j hj', getElem!_pos d' i hi', ltOf_cfV'] at this
    simp only [Array.getElem_toList]
    have a1 := Vals.cmp_neg d'[i].k d'[i].i d'[i].t d'[j].k d'[j].i d'[j].t
    omega
  · have := lies_sortWorld (n := q) (os := os) hB hsz'
    simpa using this
theorem sortV_none (cap : Nat) (A : Option Addr) (w : World) : Calls Try.prog 59 #[.slice A 0 cap, .func (.func 49) #[] #[]] w fun e w' => e = .returned (.tuple #[]) ∧ w' = w :=
  AnyF.slices_SortFunc_none { Try.sortV with } A cap _ w
end Go.Proofs.Ytcgmbgfbhdimeaa
