/- EventGets holds at this commit: attributes that are looked up are what the document answers: any attributes, any name. No condition. -/
import Derived.Test.YtmecacgiakbclaaESml
namespace Go.Proofs.Ytmecacgiakbclaa
open Go.RowKit Go.Sort Ev Go.ChangeShapes Go.WideShapes Go.Deep
theorem few_is (A : Option Addr) (es : List At) (n c : Nat) (hn : es.length = n) (hm : n ≤ maxLen) (hb : ∀ a ∈ es, a.n.length ≤ maxLen ∧ a.t.length ≤ maxLen) (b : Bool) (hF : decide (Few es) = b) (w : World) (hr : RdA w A es) :
    Calls Try.prog 9 #[.slice A n c] w fun e w' => e = .returned (.bool b) ∧ w' = w :=
  (few_at A es n c hn hm hb w hr).mono fun _ _ ⟨h, k⟩ => ⟨by rw [h, hF], k⟩
theorem refGet_some (A : Option Addr) (es : List At) (n c : Nat) (hn : es.length = n) (hm : n ≤ maxLen) (s : List UInt8) (an : List UInt8) (ak ai : Int) (at_ : List UInt8) (hf : find es s = some ⟨an, ak, ai, at_⟩) (w : World) (hr : RdA w A es) :
    Calls Try.prog 16 #[.slice A n c, .string ⟨s.toArray⟩] w fun e w' => e = .returned (.tuple #[.agg #[.int .i64 ak, .int .i64 ai, .string ⟨at_.toArray⟩], .bool true]) ∧ Below w.heap.size w w' := by
  have h := refGet_at A es n c hn hm s w hr
  rw [hf] at h
  exact h
theorem refGet_none (A : Option Addr) (es : List At) (n c : Nat) (hn : es.length = n) (hm : n ≤ maxLen) (s : List UInt8) (hf : find es s = none) (w : World) (hr : RdA w A es) :
    Calls Try.prog 16 #[.slice A n c, .string ⟨s.toArray⟩] w fun e w' => e = .returned (.tuple #[.agg #[.int .i64 0, .int .i64 0, .string ⟨#[]⟩], .bool false]) ∧ Below w.heap.size w w' := by
  have h := refGet_at A es n c hn hm s w hr
  rw [hf] at h
  exact h
set_option maxRecDepth 100000 in
set_option maxHeartbeats 1000000 in
theorem walk_EventGets (w : World) (A : Option Addr) (es : List At) (n c : Nat) (hl : es.length = n) (hc : n ≤ c) (hm : c ≤ maxLen) (rd : RdA w A es) (hw : ∀ a ∈ es, a.n.length ≤ maxLen ∧ a.t.length ≤ maxLen) (s : List UInt8) (_ : (⟨s.toArray⟩ : ByteArray).size ≤ maxLen) :
    Calls Try.prog 4 #[.slice A n c, .string ⟨s.toArray⟩] w fun e w' => e = .returned (.bool true) ∧ Below w.heap.size w w' := by
  have HN := Lib.hid hl
  have hnm : Hid (n ≤ maxLen) := Nat.le_trans hc hm
  have HW := Lib.hid hw
  clear hl hc hm hw
  go_enter Try.func4, Try.ntmps4
  go_wp2_with fail
  refine (small_any w).mono ?_
  rintro e w1 ⟨rfl, hb1⟩
  have rd1 := rd.below hb1
  go_wp2_with fail
  by_cases hF : Few es
  · refine (few_is A es n c HN.out hnm.out HW.out true (decide_eq_true hF) w1 rd1).mono ?_
    rintro e w2 ⟨rfl, rfl⟩
    clear hF rd
    by_cases hs : s.length ≤ 100
    · have hd : decide ((100 : Int) < (s.length : Int)) = false := by simp; omega
      clear hs
      have hG := eqGuardV
      cases hf : find es s with
      | none =>
        have HF := Lib.hid hf
        clear hf
        go_wp2_with fail
        refine (get_none A es n c HN.out hnm.out s HF.out _ rd1).mono ?_
        rintro e w3 ⟨rfl, hb3⟩
        have rd3 := rd1.below hb3
        have hbw := below_next hb1 (Nat.le_refl _) hb3
        clear hb1 hb3 rd1 hd
        have hX := Blk.new w3 30 #[.int .i64 0, .int .i64 0, .string ⟨#[]⟩]
        have hb4 := below_cells w3 #[.int .i64 0, .int .i64 0, .string ⟨#[]⟩] 30
        go_wp2_with fail
        have rd4 := rd3.below hb4
        replace hbw := below_next hbw (Nat.le_refl _) hb4
        generalize w3.alloc (.cells #[.int .i64 0, .int .i64 0, .string ⟨#[]⟩] 30) = w4 at *
        generalize w3.heap.size = x3 at *
        refine (refGet_none A es n c HN.out hnm.out s HF.out _ rd4).mono ?_
        rintro e w5 ⟨rfl, hb5⟩
        replace hX := hX.below hb5 hX.lt
        replace hbw := below_next hbw (Nat.le_refl _) hb5
        have hx := hX.lt
        obtain ⟨x0, x1, x2, _, _, _⟩ := blk3 hX
        clear hb4 hb5 rd3 rd4 hX
        have hb6 := below_cells w5 #[.int .i64 0, .int .i64 0, .string ⟨#[]⟩] 30
        go_wp2_with fail
        go_ret
        exact ⟨rfl, below_next hbw (Nat.le_refl _) hb6⟩
      | some a =>
        obtain ⟨an, ak, ai, at_⟩ := a
        have HF := Lib.hid hf
        clear hf
        go_wp2_with fail
        refine (get_some A es n c HN.out hnm.out s an ak ai at_ HF.out _ rd1).mono ?_
        rintro e w3 ⟨rfl, hb3⟩
        have rd3 := rd1.below hb3
        have hbw := below_next hb1 (Nat.le_refl _) hb3
        clear hb1 hb3 rd1 hd
        have hX := Blk.new w3 30 #[.int .i64 ak, .int .i64 ai, .string ⟨at_.toArray⟩]
        have hb4 := below_cells w3 #[.int .i64 ak, .int .i64 ai, .string ⟨at_.toArray⟩] 30
        go_wp2_with fail
        have rd4 := rd3.below hb4
        replace hbw := below_next hbw (Nat.le_refl _) hb4
        generalize w3.alloc (.cells #[.int .i64 ak, .int .i64 ai, .string ⟨at_.toArray⟩] 30) = w4 at *
        generalize w3.heap.size = x3 at *
        refine (refGet_some A es n c HN.out hnm.out s an ak ai at_ HF.out _ rd4).mono ?_
        rintro e w5 ⟨rfl, hb5⟩
        replace hX := hX.below hb5 hX.lt
        replace hbw := below_next hbw (Nat.le_refl _) hb5
        have hx := hX.lt
        obtain ⟨x0, x1, x2, _, _, _⟩ := blk3 hX
        clear hb4 hb5 rd3 rd4 hX
        have hb6 := below_cells w5 #[.int .i64 ak, .int .i64 ai, .string ⟨at_.toArray⟩] 30
        go_wp2_with fail
        go_ret
        exact ⟨rfl, below_next hbw (Nat.le_refl _) hb6⟩
    · have hd : decide ((100 : Int) < (s.length : Int)) = true := by simp; omega
      clear hs
      go_wp2_with fail
      go_ret
      exact ⟨rfl, hb1⟩
  · refine (few_is A es n c HN.out hnm.out HW.out false (decide_eq_false hF) w1 rd1).mono ?_
    rintro e w2 ⟨rfl, rfl⟩
    clear hF
    go_wp2_with fail
    go_ret
    exact ⟨rfl, hb1⟩

/-! ### The row's step. -/
namespace eventGets
theorem own : ownKnob Try.prog.godebug = none := by kernel_rfl
theorem laidOut : laidOutB Try.prog = true := by kernel_rfl
set_option linter.unusedVariables false in
set_option maxRecDepth 100000 in
theorem lifted (os : Os) (started : os.Started) (H : Type) (enc : TypeId × Value → H) :
    ReturnsInHanded {} Try.checked os 4 .any (Rows.eventGetsSpec.pre6 enc Try.prog Try.f4 Rows.eventGetsRow.domain false) (Rows.eventGetsSpec.post enc Try.prog Try.f4 false true false false) := by
  refine returnsInHanded_of_change_sized (C := Try.checked) own started (by kernel_rfl) Try.func4
    (ChangeSpec.witness6 (enc := enc) (C := Try.checked) false ⟨#[], #[.slice none 0 0, .string ⟨#[]⟩], []⟩ 8 (by kernel_rfl) (by kernel_rfl) (by kernel_rfl) (by kernel_rfl)) ?_
  intro W base args ds gs before hval0 hW hcnd hsz0 _
  have hval : ∀ (j : Nat) t v, Try.f4.params[j]? = some t → args[j]? = some v → Value.okWide Try.prog W .any base t v := hval0
  have hsz : (DataW.weightsEach Try.prog (Try.f4.params.toList ++ Rows.eventGetsSpec.plain.varTypes Try.prog) (ds ++ gs)).all (· ≤ reachBytes) = true := hsz0
  have hW' := hW
  obtain ⟨p, q, hA0, hV, rfl, hfz, hnd⟩ := hW
  have hA : DataW.TrodAll enc Try.prog W 0 (fun _ => true) true Try.f4.params.toList args.toList ds p := hA0
  rw [Try.params4] at hA hval hsz
  obtain ⟨v0, vs0, d0, ds0, p0, q0, hargs, rfl, rfl, h0, r0⟩ := trodAll_cons hA
  obtain ⟨v1, vs1, d1, ds1, p1, q1, rfl, rfl, rfl, h1, r1⟩ := trodAll_cons r0
  obtain ⟨rfl, rfl, rfl⟩ := trodAll_nil r1
  obtain rfl : args = #[v0, v1] := by cases args; simp_all
  obtain ⟨rfl, rfl⟩ := trodVars_none hV
  obtain ⟨a0, len0, cap0, rfl⟩ := okWide_slice Try.underlying22 (hval 0 22 v0 rfl rfl)
  have k0 := h0
  have lt0 : ∀ x ∈ p0, x.block < W.heap.size := by obtain ⟨m, hm⟩ := k0; exact DataW.trod_lt m _ _ _ hm
  obtain ⟨es0, hl0, hc0, hm0, rd0, hw0⟩ := open_attrs_of Try.underlying22 Try.underlying32 (by kernel_rfl) ⟨rfl, rfl, by kernel_rfl⟩ ⟨rfl, rfl, by kernel_rfl⟩ Try.underlying9 Try.underlying30 ⟨rfl, rfl, by kernel_rfl⟩ ⟨rfl, rfl, by kernel_rfl⟩ ⟨rfl, rfl, by kernel_rfl⟩ Try.underlying3 Try.underlying3 Try.underlying9 k0
  obtain ⟨⟨⟨a1⟩⟩, rfl, rfl, rfl, w1⟩ := Go.ChangeMaps.open_string Try.underlying9 (hval 1 9 v1 rfl rfl) h1
  clear hA0 hval0
  refine (walk_EventGets W a0 es0 len0 cap0 hl0 hc0 hm0 rd0 hw0 a1 w1).mono fun e W' ⟨he, bel⟩ => ?_
  subst he
  exact ⟨_, rfl, _, _, _, [], _, [], hW', trodAll_mk1 (shut_bool Try.underlying4 _), (trodAll_cons_mk (Below.trod laidOut (by kernel_rfl) (of_decide_eq_true (by kernel_rfl)) k0 bel lt0) (trodAll_cons_mk (Go.ChangeMaps.shut_string Try.underlying9 w1) trodAll_mk0)), rfl, bel.frame _, fun h => by cases h⟩
theorem over : Rows.eventGetsRow.holds Try.pinned (OpenSpec.ofChange Rows.eventGetsSpec) :=
  OpenClaim.holds_of_wide 4 Try.f4 rfl rfl rfl rfl rfl rfl rfl ⟨rfl, rfl, rfl, rfl, rfl⟩ rfl rfl rfl rfl rfl (by kernel_rfl) Try.func4 (by kernel_rfl)
    (of_decide_eq_true (by kernel_rfl)) (by unfold Func.isWrapper; first | (rw [if_pos (by decide +kernel)]; kernel_rfl) | (rw [if_neg (by decide +kernel)]; exact ⟨rfl, rfl⟩))
    (fun os started H enc _ => lifted os started H enc)
end eventGets
/-- THE STATEMENT. -/
theorem eventGets_holds : Rows.EventGetsSaid := eventGets.over
#print axioms eventGets_holds
end Go.Proofs.Ytmecacgiakbclaa
