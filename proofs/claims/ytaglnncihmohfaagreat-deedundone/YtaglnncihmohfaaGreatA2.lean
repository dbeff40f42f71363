/- Contracts of the program and of the document (PHolds, PMeets), each used further on. -/
import Derived.Test.YtaglnncihmohfaaGreatM1
import Derived.Test.YtaglnncihmohfaaGreatA1
set_option maxRecDepth 100000
set_option maxHeartbeats 4000000
namespace Go.Proofs.YtaglnncihmohfaaGreat
open Go.RowKit
theorem box53 (w : World) (t t2 : TypeId) (a b c d e a' b' c' : Value) :
  Blk ((w.alloc (.cells #[a, b, c, d, e] t)).alloc (.cells #[a', b', c'] t2)) w.heap.size t #[a, b, c, d, e] /\ Blk ((w.alloc (.cells #[a, b, c, d, e] t)).alloc (.cells #[a', b', c'] t2)) (w.heap.size + 1) t2 #[a', b', c'] /\
   Below w.heap.size w ((w.alloc (.cells #[a, b, c, d, e] t)).alloc (.cells #[a', b', c'] t2)) :=
 ⟨(Blk.new w _ _).alloc _, by simpa using Blk.new (w.alloc (.cells #[a, b, c, d, e] t)) t2 #[a', b', c'], ((Below.refl _ _).alloc (Nat.le_refl _) _).alloc (by simp) _⟩
theorem holds_wrong (n : List UInt8) (o k i : Int) (t : List UInt8) (k' i' : Int) (t' : List UInt8) (w : World) (hn : n.length <= 9223372036854775807) (hl : t.length <= 9223372036854775807) (_hl2 : t'.length <= 9223372036854775807) (hr : Preds.right n o k i t = false) : Calls Tryz.prog 109 #[.agg (pC n.toArray o k i t.toArray), .agg (vC k' i' t'.toArray)] w fun e w' => e = .returned (.bool (false)) /\ Below w.heap.size w w' := by
 have HR := Lib.hid hr
 clear hr
 obtain ⟨hP, hV, hb0⟩ := box53 w 35 33 (.string ⟨n.toArray⟩) (.int .i64 o) (.int .i64 k) (.int .i64 i) (.string ⟨t.toArray⟩) (.int .i64 k') (.int .i64 i') (.string ⟨t'.toArray⟩)
 go_enter Tryz.func109, Tryz.ntmps109
 go_wp2_with fail
 generalize (w.alloc (.cells (pC n.toArray o k i t.toArray) 35)).alloc (.cells (vC k' i' t'.toArray) 33) = w0 at *
 refine (pright_is n o k i t w0 hn hl _ HR.out).mono ?_
 rintro e w1 ⟨rfl, hb1⟩
 have hP1 := hP.below hb1 hP.lt
 have hV1 := hV.below hb1 hV.lt
 have hbw := below_next hb0 (Nat.le_refl _) hb1
 clear hP hV hb0 hb1
 obtain ⟨c0, c1, c2, c3, c4, _, _, _, _, _⟩ := blk5 hP1
 obtain ⟨v0, v1, v2, _, _, _⟩ := blk3 hV1
 go_wp2_with fail
 go_ret
 exact ⟨rfl, hbw⟩
end Go.Proofs.YtaglnncihmohfaaGreat
namespace Go.Proofs.YtaglnncihmohfaaGreat
open Go.RowKit Go.Sort Ev
def meetsV (es : List At) (n : List UInt8) (o k i : Int) (t : List UInt8) : Bool :=
 match find es n with
 | some a => Preds.holds n o k i t a.k a.i a.t
 | none => false
theorem find_mem {es : List At} {s : List UInt8} {a : At} (h : find es s = some a) : a ∈ es := List.mem_of_find?_eq_some h
end Go.Proofs.YtaglnncihmohfaaGreat
