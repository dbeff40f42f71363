/- slices.SortFunc over attributes, by their names. -/
import Derived.Test.YtmecacgiakbclaaESrt
import Derived.Test.YtmecacgiakbclaaEOne
namespace Go.Proofs.Ytmecacgiakbclaa
open Go.RowKit Go.Sort Go.Shelf Go.Lib Ev
set_option maxRecDepth 100000 in
theorem names_at (an : List UInt8) (ak ai : Int) (at_ : List UInt8) (bn : List UInt8) (bk bi : Int) (bt : List UInt8) (w : World) :
    Calls Try.prog 21 #[.agg #[.string ⟨an.toArray⟩, .int .i64 ak, .int .i64 ai, .string ⟨at_.toArray⟩], .agg #[.string ⟨bn.toArray⟩, .int .i64 bk, .int .i64 bi, .string ⟨bt.toArray⟩]] w fun e w' => e = .returned (.int .i64 (Vals.cmpT an bn)) ∧ Grown w w' := by
  have hW := Lib.hid (((Grown.refl w).alloc (.cells #[.string ⟨an.toArray⟩, .int .i64 ak, .int .i64 ai, .string ⟨at_.toArray⟩] 32)).alloc (.cells #[.string ⟨bn.toArray⟩, .int .i64 bk, .int .i64 bi, .string ⟨bt.toArray⟩] 32))
  go_enter Try.func21, Try.ntmps21
  go_wp2_with fail
  refine (cmpText_at an bn _).mono ?_
  rintro e w1 ⟨rfl, rfl⟩
  go_wp2_with fail
  go_ret
  exact ⟨rfl, hW.out⟩
def cf (x y : At) : Int := Vals.cmpT x.n y.n
theorem ltOf_cf (x y : At) : ltOf cf x y = Op.bytesLess x.n y.n := by
  unfold ltOf cf Vals.cmpT
  cases h : Op.bytesLess x.n y.n
  · simp; split <;> omega
  · simp
theorem swo_cf : SWO (ltOf cf) where
  irrefl x := by rw [ltOf_cf]; exact Vals.less_irr _
  trans x y z h1 h2 := by rw [ltOf_cf] at *; exact Vals.less_trans _ _ _ h1 h2
  ntrans x y z h1 h2 := by
    rw [ltOf_cf] at *
    cases h3 : Op.bytesLess x.n z.n
    · rfl
    · cases h4 : Op.bytesLess y.n x.n
      · rw [Vals.less_tri _ _ h1 h4, h2] at h3; cases h3
      · rw [Vals.less_trans _ _ _ h4 h3] at h2; cases h2
theorem cmpLays_names (blk off size : Nat) (w : World) : CmpLays Try.prog 21 #[] cellsA 4 cf blk off size w :=
  fun _ _ _ _ x y => names_at x.n x.k x.i x.t y.n y.k y.i y.t _
theorem flatK_flat (es : List At) : flatK cellsA 4 es.toArray = (es.flatMap cellsA).toArray := by
  refine Array.ext (by rw [size_flatK, List.size_toArray, List.size_toArray, flat_length]) fun t h1 h2 => ?_
  have ht : t < es.length * 4 := by simpa using h1
  have e1 : (flatK cellsA 4 es.toArray)[t]! = (cellsA es.toArray[t / 4]!)[t % 4]! := get_flatK cellsA 4 es.toArray t (by simpa using ht)
  rw [getElem!_pos _ t h1] at e1
  rw [e1]
  have hq : t / 4 < es.length := by omega
  have hm : t % 4 < 4 := Nat.mod_lt _ (by decide)
  have e2 := flat_at es (t / 4) hq (t % 4) hm
  have e3 : t / 4 * 4 + t % 4 = t := by omega
  rw [e3] at e2
  have hc : (cellsA es[t / 4]).length = 4 := rfl
  rw [List.getElem?_eq_getElem (by rw [flat_length]; exact ht), List.getElem?_eq_getElem (by rw [hc]; exact hm)] at e2
  have e4 : es.toArray[t / 4]! = es[t / 4] := by simp [hq]
  rw [e4, getElem!_pos _ _ (by rw [hc]; exact hm)]
  simpa using (Option.some.inj e2).symm
theorem holds_of_blk {w : World} {g : Nat} {t : TypeId} {es : List At} (hB : Blk w g t (es.flatMap cellsA).toArray) : HoldsK cellsA 4 w g 0 es.toArray := by
  unfold HoldsK Holds
  rw [flatK_flat]
  intro j hj
  rw [Nat.zero_add]
  refine ⟨?_, hB.frozen j⟩
  rw [hB.cell j, Array.getElem?_eq_getElem hj, getElem!_pos _ j hj]; rfl
theorem below_sortWorld {B g off n : Nat} {w0 w : World} {d : Array At} {os : Array Obj} (hb : Below B w0 w) (hB : B ≤ g) (hs : B ≤ w.heap.size) : Below B w0 (sortWorldK cellsA 4 w g off n d os) := by
  refine ⟨hb.os, hb.tape, hb.output, ?_, fun k hk => ?_⟩
  · refine Nat.le_trans hb.size ?_
    simp [sortWorldK, putRowK, putRow, mapBlock]
  · rw [← hb.block k hk]
    show ((w.heap.modify g _) ++ os)[k]? = _
    rw [Array.getElem?_append_left (by simp; omega), Array.getElem?_modify, if_neg (by omega)]
theorem blk_sortWorld {g n : Nat} {w : World} {t : TypeId} {es out : List At} {os : Array Obj} (hB : Blk w g t (es.flatMap cellsA).toArray) (hl : out.length = es.length) :
    Blk (sortWorldK cellsA 4 w g 0 n out.toArray os) g t (out.flatMap cellsA).toArray := by
  unfold Blk
  show ((w.heap.modify g (onCells (putCells id 0 (flatK cellsA 4 out.toArray)))) ++ os)[g]? = _
  rw [Array.getElem?_append_left (by simp; exact hB.lt), Array.getElem?_modify, if_pos rfl, hB, flatK_flat]
  simp only [Option.map_some, onCells, Option.some.injEq, Obj.cells.injEq, and_true]
  refine Array.ext ?_ fun k h1 h2 => ?_
  · rw [putCells, Array.size_mapIdx, List.size_toArray, List.size_toArray, flat_length, flat_length, hl]
  · have hk : k < (out.flatMap cellsA).length := by simpa using h2
    have hk2 : k < (out.flatMap cellsA).toArray.size := h2
    simp only [putCells, Array.getElem_mapIdx, Nat.zero_le, true_and, Nat.zero_add, Nat.sub_zero]
    rw [if_pos hk2, getElem!_pos _ k hk2]; rfl
theorem sorted_rises {es out : List At} (h1 : Once es) (hp : out.Perm es) (hs : out.Pairwise fun a b => ¬ lt b a) : IsSort es out := by
  refine ⟨hp, ?_⟩
  have hn : (out.map At.n).Nodup := (hp.map At.n).nodup_iff.2 h1
  have hn2 : out.Pairwise fun a b => a.n ≠ b.n := List.pairwise_map.1 hn
  exact (hs.and hn2).imp fun {a b} ⟨h1, h2⟩ => by
    by_cases h3 : lt a b
    · exact h3
    · exact absurd (lt_tri h3 h1) h2
theorem sort_at (g : Nat) (es : List At) (n cap : Nat) (t : TypeId) (hn : es.length = n) (hm : n ≤ 24) (h1 : Once es) (w : World) (hB : Blk w g t (es.flatMap cellsA).toArray) :
    Calls Try.prog 20 #[.slice (some ⟨g, 0, none⟩) n cap, .func (.func 21) #[] #[]] w fun e w' =>
      e = .returned (.tuple #[]) ∧ ∃ out, IsSort es out ∧ Blk w' g t (out.flatMap cellsA).toArray ∧ ∀ B w0, Below B w0 w → B ≤ g → Below B w0 w' := by
  have eg : ∀ args w, (callFunc 21 args).run Try.prog w = .ok (.enter 21 args) w := enters_of Try.func21 (by kernel_rfl) rfl
  have hcon := AnyQ.slices_SortFunc Try.sortA 4 Try.isAgg32 Try.sizeOf32 cellsA (fun _ => rfl) (fun x v hv => by simp [cellsA] at hv; rcases hv with rfl | rfl | rfl | rfl <;> rfl) cf swo_cf 21 #[] g 0 cap es.toArray w eg (cmpLays_names g 0 _ w) (holds_of_blk hB) hB.lt (by simp; omega)
  subst hn
  refine Calls.mono hcon ?_
  rintro e w' ⟨rfl, d', q, os, hp, hs, rfl⟩
  obtain ⟨hsz, _, hperm⟩ := hp
  have hsz' : d'.toList.length = es.length := by simpa using hsz
  have hperm' : d'.toList.Perm es := by
    have e1 : d'.extract 0 es.toArray.size = d' := by rw [← hsz]; simp
    have e2 : es.toArray.extract 0 es.toArray.size = es.toArray := by simp
    rw [e1, e2] at hperm
    simpa using hperm
  refine ⟨rfl, d'.toList, sorted_rises h1 hperm' ?_, ?_, fun B w0 hb hB' => below_sortWorld hb hB' (by have := hB.lt; omega)⟩
  · rw [List.pairwise_iff_getElem]
    intro i j hi hj hij
    have := hs i j (Nat.zero_le _) hij (by simpa [← hsz'] using hj)
    rw [ltOf_cf] at this
    have hi' : i < d'.size := by simpa using hi
    have hj' : j < d'.size := by simpa using hj
    rw [getElem!_pos d' j hj', getElem!_pos d' i hi'] at this
    unfold lt
    simp only [Array.getElem_toList]
    rw [this]; simp
  · have := blk_sortWorld (n := q) (os := os) hB hsz'
    simpa using this
end Go.Proofs.Ytmecacgiakbclaa
