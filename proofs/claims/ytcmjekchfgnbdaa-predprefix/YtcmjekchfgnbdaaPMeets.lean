/- Package pred: which events meet a predicate: by the program, and by the document. -/
import Derived.Test.YtcmjekchfgnbdaaPHolds
import Derived.Test.YtcmjekchfgnbdaaEGet
namespace Go.Proofs.Ytcmjekchfgnbdaa
open Go.RowKit Go.Sort Ev
/-- Does an event meet a predicate? -/
def meetsV (es : List At) (n : List UInt8) (o k i : Int) (t : List UInt8) : Bool :=
  match find es n with
  | some a => Preds.holds n o k i t a.k a.i a.t
  | none => false
theorem find_mem {es : List At} {s : List UInt8} {a : At} (h : find es s = some a) : a ∈ es := List.mem_of_find?_eq_some h
theorem pgot_some (A : Option Addr) (es : List At) (n c : Nat) (hn : es.length = n) (hm : n ≤ maxLen) (s : List UInt8) (an : List UInt8) (ak ai : Int) (at_ : List UInt8) (hf : find es s = some ⟨an, ak, ai, at_⟩) (w : World) (hr : RdA w A es) :
    Calls Try.prog 31 #[.slice A n c, .string ⟨s.toArray⟩] w fun e w' => e = .returned (.tuple #[.agg #[.int .i64 ak, .int .i64 ai, .string ⟨at_.toArray⟩], .bool true]) ∧ Below w.heap.size w w' := by
  have h := get_at A es n c hn hm s w hr
  rw [hf] at h
  exact h
theorem pgot_none (A : Option Addr) (es : List At) (n c : Nat) (hn : es.length = n) (hm : n ≤ maxLen) (s : List UInt8) (hf : find es s = none) (w : World) (hr : RdA w A es) :
    Calls Try.prog 31 #[.slice A n c, .string ⟨s.toArray⟩] w fun e w' => e = .returned (.tuple #[.agg #[.int .i64 0, .int .i64 0, .string ⟨#[]⟩], .bool false]) ∧ Below w.heap.size w w' := by
  have h := get_at A es n c hn hm s w hr
  rw [hf] at h
  exact h
set_option maxRecDepth 100000 in
set_option maxHeartbeats 1600000 in
theorem meets_at (n : List UInt8) (o k i : Int) (t : List UInt8) (A : Option Addr) (es : List At) (m c : Nat) (w : World) (hm : es.length = m) (hml : m ≤ maxLen) (hb : ∀ a ∈ es, a.n.length ≤ maxLen ∧ a.t.length ≤ maxLen) (hn : n.length ≤ 9223372036854775807) (hl : t.length ≤ 9223372036854775807) (hr : RdA w A es) :
    Calls Try.prog 14 #[.agg #[.string ⟨n.toArray⟩, .int .i64 o, .int .i64 k, .int .i64 i, .string ⟨t.toArray⟩], .slice A m c] w fun e w' => e = .returned (.bool (meetsV es n o k i t)) ∧ Below w.heap.size w w' := by
  have HM := Lib.hid hm
  have HB := Lib.hid hb
  clear hm hb
  obtain ⟨hP, hb0⟩ := box5 w 25 (.string ⟨n.toArray⟩) (.int .i64 o) (.int .i64 k) (.int .i64 i) (.string ⟨t.toArray⟩)
  have hr0 := hr.below hb0
  go_enter Try.func14, Try.ntmps14
  go_wp2_with fail
  generalize w.alloc (.cells #[.string ⟨n.toArray⟩, .int .i64 o, .int .i64 k, .int .i64 i, .string ⟨t.toArray⟩] 25) = w0 at *
  rcases hf : find es n with _ | ⟨an, ak, ai, at_⟩
  · have HF : Hid (meetsV es n o k i t = false) := by show _ = _; unfold meetsV; rw [hf]
    refine (pgot_none A es m c HM.out hml n hf w0 hr0).mono ?_
    rintro e w1 ⟨rfl, hb1⟩
    have hbw := below_next hb0 (Nat.le_refl _) hb1
    clear hf hr0 hb0 hb1 hr hP
    go_wp2_with fail
    go_ret
    exact ⟨ret_b HF.out.symm, hbw.alloc hbw.size _⟩
  · have HF : Hid (meetsV es n o k i t = Preds.holds n o k i t ak ai at_) := by show _ = _; unfold meetsV; rw [hf]
    have ha : at_.length ≤ maxLen := (HB.out _ (find_mem hf)).2
    rw [maxLen_num] at ha
    refine (pgot_some A es m c HM.out hml n an ak ai at_ hf w0 hr0).mono ?_
    rintro e w1 ⟨rfl, hb1⟩
    have hP1 := hP.below hb1 hP.lt
    have hbw := below_next hb0 (Nat.le_refl _) hb1
    obtain ⟨c0, c1, c2, c3, c4, _, _, _, _, _⟩ := blk5 hP1
    have lt0 : w.heap.size < w1.heap.size := hP1.lt
    have hbx := hbw.alloc hbw.size (.cells #[.int .i64 ak, .int .i64 ai, .string ⟨at_.toArray⟩] 23)
    clear hf hr0 hb0 hb1 hr hP
    go_wp2_with fail
    refine (holds_is n o k i t ak ai at_ _ hn hl ha _ HF.out.symm).mono ?_
    rintro e w2 ⟨rfl, hb2⟩
    have hby := below_next hbx (Nat.le_refl _) hb2
    clear hb2 hbx c0 c1 c2 c3 c4
    go_wp2_with fail
    go_ret
    exact ⟨rfl, hby⟩
theorem meets_is (n : List UInt8) (o k i : Int) (t : List UInt8) (A : Option Addr) (es : List At) (m c : Nat) (w : World) (hm : es.length = m) (hml : m ≤ maxLen) (hb : ∀ a ∈ es, a.n.length ≤ maxLen ∧ a.t.length ≤ maxLen) (hn : n.length ≤ 9223372036854775807) (hl : t.length ≤ 9223372036854775807) (hr : RdA w A es) (b : Bool) (hv : meetsV es n o k i t = b) :
    Calls Try.prog 14 #[.agg #[.string ⟨n.toArray⟩, .int .i64 o, .int .i64 k, .int .i64 i, .string ⟨t.toArray⟩], .slice A m c] w fun e w' => e = .returned (.bool b) ∧ Below w.heap.size w w' := by
  subst hv; exact meets_at n o k i t A es m c w hm hml hb hn hl hr
theorem rgot_some (A : Option Addr) (es : List At) (n c : Nat) (hn : es.length = n) (hm : n ≤ maxLen) (s : List UInt8) (an : List UInt8) (ak ai : Int) (at_ : List UInt8) (hf : find es s = some ⟨an, ak, ai, at_⟩) (w : World) (hr : RdA w A es) :
    Calls Try.prog 32 #[.slice A n c, .string ⟨s.toArray⟩] w fun e w' => e = .returned (.tuple #[.agg #[.int .i64 ak, .int .i64 ai, .string ⟨at_.toArray⟩], .bool true]) ∧ Below w.heap.size w w' := by
  have h := refGet_at A es n c hn hm s w hr
  rw [hf] at h
  exact h
theorem rgot_none (A : Option Addr) (es : List At) (n c : Nat) (hn : es.length = n) (hm : n ≤ maxLen) (s : List UInt8) (hf : find es s = none) (w : World) (hr : RdA w A es) :
    Calls Try.prog 32 #[.slice A n c, .string ⟨s.toArray⟩] w fun e w' => e = .returned (.tuple #[.agg #[.int .i64 0, .int .i64 0, .string ⟨#[]⟩], .bool false]) ∧ Below w.heap.size w w' := by
  have h := refGet_at A es n c hn hm s w hr
  rw [hf] at h
  exact h
set_option maxRecDepth 100000 in
set_option maxHeartbeats 1600000 in
theorem rmeets_at (n : List UInt8) (o k i : Int) (t : List UInt8) (A : Option Addr) (es : List At) (m c : Nat) (w : World) (hm : es.length = m) (hml : m ≤ maxLen) (hb : ∀ a ∈ es, a.n.length ≤ maxLen ∧ a.t.length ≤ maxLen) (hn : n.length ≤ 9223372036854775807) (hl : t.length ≤ 9223372036854775807) (hr : RdA w A es) :
    Calls Try.prog 15 #[.agg #[.string ⟨n.toArray⟩, .int .i64 o, .int .i64 k, .int .i64 i, .string ⟨t.toArray⟩], .slice A m c] w fun e w' => e = .returned (.bool (meetsV es n o k i t)) ∧ Below w.heap.size w w' := by
  have HM := Lib.hid hm
  have HB := Lib.hid hb
  clear hm hb
  obtain ⟨hP, hb0⟩ := box5 w 25 (.string ⟨n.toArray⟩) (.int .i64 o) (.int .i64 k) (.int .i64 i) (.string ⟨t.toArray⟩)
  have hr0 := hr.below hb0
  go_enter Try.func15, Try.ntmps15
  go_wp2_with fail
  generalize w.alloc (.cells #[.string ⟨n.toArray⟩, .int .i64 o, .int .i64 k, .int .i64 i, .string ⟨t.toArray⟩] 25) = w0 at *
  rcases hf : find es n with _ | ⟨an, ak, ai, at_⟩
  · have HF : Hid (meetsV es n o k i t = false) := by show _ = _; unfold meetsV; rw [hf]
    refine (rgot_none A es m c HM.out hml n hf w0 hr0).mono ?_
    rintro e w1 ⟨rfl, hb1⟩
    have hbw := below_next hb0 (Nat.le_refl _) hb1
    clear hf hr0 hb0 hb1 hr hP
    go_wp2_with fail
    go_ret
    exact ⟨ret_b HF.out.symm, hbw.alloc hbw.size _⟩
  · have HF : Hid (meetsV es n o k i t = Preds.holds n o k i t ak ai at_) := by show _ = _; unfold meetsV; rw [hf]
    have ha : at_.length ≤ maxLen := (HB.out _ (find_mem hf)).2
    rw [maxLen_num] at ha
    refine (rgot_some A es m c HM.out hml n an ak ai at_ hf w0 hr0).mono ?_
    rintro e w1 ⟨rfl, hb1⟩
    have hP1 := hP.below hb1 hP.lt
    have hbw := below_next hb0 (Nat.le_refl _) hb1
    obtain ⟨c0, c1, c2, c3, c4, _, _, _, _, _⟩ := blk5 hP1
    have lt0 : w.heap.size < w1.heap.size := hP1.lt
    have hbx := hbw.alloc hbw.size (.cells #[.int .i64 ak, .int .i64 ai, .string ⟨at_.toArray⟩] 23)
    clear hf hr0 hb0 hb1 hr hP
    go_wp2_with fail
    refine (rholds_is n o k i t ak ai at_ _ hn hl ha _ HF.out.symm).mono ?_
    rintro e w2 ⟨rfl, hb2⟩
    have hby := below_next hbx (Nat.le_refl _) hb2
    clear hb2 hbx c0 c1 c2 c3 c4
    go_wp2_with fail
    go_ret
    exact ⟨rfl, hby⟩
theorem rmeets_is (n : List UInt8) (o k i : Int) (t : List UInt8) (A : Option Addr) (es : List At) (m c : Nat) (w : World) (hm : es.length = m) (hml : m ≤ maxLen) (hb : ∀ a ∈ es, a.n.length ≤ maxLen ∧ a.t.length ≤ maxLen) (hn : n.length ≤ 9223372036854775807) (hl : t.length ≤ 9223372036854775807) (hr : RdA w A es) (b : Bool) (hv : meetsV es n o k i t = b) :
    Calls Try.prog 15 #[.agg #[.string ⟨n.toArray⟩, .int .i64 o, .int .i64 k, .int .i64 i, .string ⟨t.toArray⟩], .slice A m c] w fun e w' => e = .returned (.bool b) ∧ Below w.heap.size w w' := by
  subst hv; exact rmeets_at n o k i t A es m c w hm hml hb hn hl hr
end Go.Proofs.Ytcmjekchfgnbdaa
