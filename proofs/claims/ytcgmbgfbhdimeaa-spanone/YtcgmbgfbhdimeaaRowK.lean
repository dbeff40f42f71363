/- Rows of structs, as the sort of the library tells them. -/
import Derived.Test.YtcgmbgfbhdimeaaRow
import Derived.Shelf.GgSortFunc.RowK
namespace Go.Proofs.Ytcgmbgfbhdimeaa
open Go.RowKit Go.Sort
variable {α : Type} {L : Lay α} [Inhabited α]
theorem flatL_flatK (es : List α) : flatK L.enc L.k es.toArray = (es.flatMap L.enc).toArray := by
  refine Array.ext (by rw [size_flatK, List.size_toArray, List.size_toArray, flatL_length]) fun t h1 h2 => ?_
  have ht : t < es.length * L.k := by simpa using h1
  have e1 : (flatK L.enc L.k es.toArray)[t]! = (L.enc es.toArray[t / L.k]!)[t % L.k]! := get_flatK L.enc L.k es.toArray t (by simpa using ht)
  rw [getElem!_pos _ t h1] at e1
  rw [e1]
  have hv := List.getElem?_eq_getElem (show t < (es.flatMap L.enc).length by rw [flatL_length]; exact ht)
  obtain ⟨hq, hv⟩ := flatL_of hv
  have e4 : es.toArray[t / L.k]! = es[t / L.k] := by simp [hq]
  rw [e4]
  have hl : t % L.k < (L.enc es[t / L.k]).length := (List.getElem?_eq_some_iff.1 hv).1
  rw [getElem!_pos (L.enc es[t / L.k]) _ hl]
  rw [List.getElem?_eq_getElem hl] at hv
  simpa using Option.some.inj hv
end Go.Proofs.Ytcgmbgfbhdimeaa
