/- EventMakes holds at this commit: which events are right, and what is made of attributes, is what the document answers; what was handed in is as it was, also when what was answered is written on: any attributes. No condition. -/
import Derived.Test.YtmecacgiakbclaaESml
import Derived.Test.YtmecacgiakbclaaERefMake
namespace Go.Proofs.Ytmecacgiakbclaa
open Go.RowKit Go.Sort Ev Go.ChangeShapes Go.WideShapes Go.Deep
theorem few_is (A : Option Addr) (es : List At) (n c : Nat) (hn : es.length = n) (hm : n ≤ maxLen) (hb : ∀ a ∈ es, a.n.length ≤ maxLen ∧ a.t.length ≤ maxLen) (b : Bool) (hF : decide (Few es) = b) (w : World) (hr : RdA w A es) :
    Calls Try.prog 9 #[.slice A n c] w fun e w' => e = .returned (.bool b) ∧ w' = w :=
  (few_at A es n c hn hm hb w hr).mono fun _ _ ⟨h, k⟩ => ⟨by rw [h, hF], k⟩
theorem refRight_is (A : Option Addr) (es : List At) (n c : Nat) (hn : es.length = n) (hm : n ≤ maxLen) (hb : ∀ a ∈ es, a.n.length ≤ maxLen ∧ a.t.length ≤ maxLen) (b : Bool) (hR : decide (Right es) = b) (w : World) (hr : RdA w A es) :
    Calls Try.prog 14 #[.slice A n c] w fun e w' => e = .returned (.bool b) ∧ Below w.heap.size w w' :=
  (refERight_at A es n c hn hm hb w hr).mono fun _ _ ⟨h, k⟩ => ⟨by rw [h, hR], k.below⟩
/-- Where what was answered lies: in a block of its own. -/
def Room (w : World) (A : Option Addr) (m B : Nat) : Prop := m = 0 ∨ ∃ g cur, A = some ⟨g, 0, none⟩ ∧ B ≤ g ∧ Blk w g 32 cur ∧ m * 4 ≤ cur.size
theorem room_of {w : World} {base m c : Nat} {A : Option Addr} {out : List At} (h : OwnA w base (.slice A m c) out) (hm : out.length = m) : Room w A m base := by
  rcases h.2 with ⟨_, hn⟩ | ⟨g, cap, cur, hv, hb, hg, hc, _, hs, _⟩
  · exact .inl (by omega)
  · injection hv with h1 h2 h3
    exact .inr ⟨g, cur, h1, hb, hg, by rw [hs]; omega⟩
theorem Room.below {w w' : World} {A : Option Addr} {m B : Nat} (h : Room w A m B) (hb : Below w.heap.size w w') : Room w' A m B := by
  rcases h with h | ⟨g, cur, h1, h2, h3, h4⟩
  · exact .inl h
  · exact .inr ⟨g, cur, h1, h2, h3.below hb h3.lt, h4⟩
set_option maxRecDepth 100000 in
set_option maxHeartbeats 2000000 in
theorem makes_in (w : World) (A : Option Addr) (es : List At) (n c : Nat) (hl : es.length = n) (hc : n ≤ c) (hm : c ≤ maxLen) (rd : RdA w A es) (hw : ∀ a ∈ es, a.n.length ≤ maxLen ∧ a.t.length ≤ maxLen) (hF : Few es) :
    Calls Try.prog 3 #[.slice A n c] w fun e w' => e = .returned (.bool true) ∧ Below w.heap.size w w' := by
  have HN := Lib.hid hl
  have h40 : n ≤ 40 := by have := hF.1; omega
  have hnm : Hid (n ≤ maxLen) := Nat.le_trans hc hm
  have HW := Lib.hid hw
  have HF := Lib.hid (decide_eq_true hF)
  have HRD := Lib.hid rd
  clear hl hc hm hw hF rd
  go_enter Try.func3, Try.ntmps3
  go_wp2_with fail
  refine (small_any w).mono ?_
  rintro e w1 ⟨rfl, hb1⟩
  go_wp2_with fail
  refine (few_is A es n c HN.out hnm.out HW.out true HF.out w1 (HRD.out.below hb1)).mono ?_
  rintro e w2 ⟨rfl, rfl⟩
  have b0 := (Below.refl w2.heap.size w2).alloc (Nat.le_refl _) (.cells #[] 32)
  have hr1 := (HRD.out.below hb1).below b0
  go_wp2_with (at_builtin; refine wpList_append_a (by rfl) (.tmp 18) (.tmp 19) rfl w2.heap.size _ [] (by rfl) (OwnA.empty w2 w2.heap.size (Nat.le_refl _)) A es n c (by rfl) hr1 HN.out (by simp; omega) (by simp) ?_; intro vi w3 oi b3 _ _; rw [List.nil_append] at oi; have hb3 := b3 w2 b0; clear b3 b0 hr1; obtain ⟨Ai, ci, rfl, hci, hri⟩ := oi.rd; rw [HN.out] at hci ⊢)
  replace hb3 := below_next hb1 (Nat.le_refl _) hb3
  clear hb1 oi
  refine (make_at Ai es n ci HN.out hnm.out HW.out w3 hri).mono ?_
  rintro e w4 ⟨va, cd, out, rfl, hMa, hOa, hb4⟩
  obtain ⟨Aa, ca, rfl, hca, hra⟩ := hOa.rd
  obtain ⟨m, hmo⟩ : ∃ m, out.length = m := ⟨_, rfl⟩
  have HM := Lib.hid hmo
  rw [hmo] at hca ⊢
  rw [hmo] at hOa
  have HRO := room_of hOa hmo
  have hmb : m ≤ maxLen := by
    by_cases h0 : cd = 0
    · have := (hMa.2.1 h0).length
      have := hnm.out
      have := HN.out
      omega
    · rw [hMa.2.2 h0] at hmo; rw [← hmo]; simp
  have HMB := Lib.hid hmb
  clear hmo hOa hmb
  go_wp2_with fail
  refine (refMake_at A es n c HN.out hnm.out HW.out w4 ((HRD.out.below hb3).below hb4)).mono ?_
  rintro e w5 ⟨vb, cd2, out2, rfl, hMb, hOb, hb5⟩
  obtain ⟨rfl, rfl⟩ := hMa.one hMb
  obtain ⟨Ab, cb, rfl, hcb, hrb⟩ := hOb.rd
  rw [HM.out] at hcb ⊢
  have hra5 := hra.below hb5
  have HRO5 := HRO.below hb5
  have hb35 := below_next hb4 (Nat.le_refl _) hb5
  clear hMa hMb hOb hra HRO hb4 hb5
  go_wp2_with fail
  refine (same_at Aa Ab out m ca cb HM.out HMB.out w5 hra5 hrb).mono ?_
  rintro e w6 ⟨rfl, hb6⟩
  have HRO6 := Lib.hid (HRO5.below hb6)
  have HB36 := Lib.hid (below_next hb35 (Nat.le_refl _) hb6)
  have HB3 := Lib.hid hb3
  have HRI := Lib.hid hri
  have hmm : m ≤ 9223372036854775807 := by have := HMB.out; rw [maxLen_num] at this; exact this
  clear hra5 hrb HRO5 hb35 hb6 hb3 hri hca hcb
  go_wp2_with fail
  go_loopw [11] (fun i wr => ∃ k : Nat, k ≤ m ∧ i = .int .i64 (k : Int) ∧ Hid (Below w3.heap.size w3 wr) ∧ Hid (Room wr Aa m w3.heap.size)) (fun i _ => m - (intOf i).toNat)
  case atStart => exact ⟨0, by omega, rfl, HB36, HRO6⟩
  case round =>
    obtain ⟨k, hk, rfl, HB, HR⟩ := hrel
    clear HB36 HRO6
    by_cases hlt : k < m
    · rcases HR.out with h0 | ⟨g, cur, rfl, hbg, hB, hsz⟩
      · omega
      · have hk1 : (k : Int) < (m : Int) := by omega
        have c0 := (hB.cell (k * 4)).trans (Array.getElem?_eq_getElem (by omega))
        have c1 := (hB.cell (k * 4 + 1)).trans (Array.getElem?_eq_getElem (by omega))
        have c2 := (hB.cell (k * 4 + 2)).trans (Array.getElem?_eq_getElem (by omega))
        have c3 := (hB.cell (k * 4 + 3)).trans (Array.getElem?_eq_getElem (by omega))
        have f0 := hB.frozen (k * 4)
        have f1 := hB.frozen (k * 4 + 1)
        have f2 := hB.frozen (k * 4 + 2)
        have f3 := hB.frozen (k * 4 + 3)
        have hB4 := (((hB.put (k * 4) (.string ⟨#[122, 122]⟩)).put (k * 4 + 1) (.int .i64 0)).put (k * 4 + 2) (.int .i64 0)).put (k * 4 + 3) (.string ⟨#[]⟩)
        have HB4 := Lib.hid ((((HB.out.setCell (p := ⟨g, k * 4, none⟩) hbg (.string ⟨#[122, 122]⟩)).setCell (p := ⟨g, k * 4 + 1, none⟩) hbg (.int .i64 0)).setCell (p := ⟨g, k * 4 + 2, none⟩) hbg (.int .i64 0)).setCell (p := ⟨g, k * 4 + 3, none⟩) hbg (.string ⟨#[]⟩))
        have HR4 : Hid (Room _ (some ⟨g, 0, none⟩) m w3.heap.size) := .inr ⟨g, _, rfl, hbg, hB4, by simpa using hsz⟩
        generalize cur[k * 4]'(by omega) = y0 at *
        generalize cur[k * 4 + 1]'(by omega) = y1 at *
        generalize cur[k * 4 + 2]'(by omega) = y2 at *
        generalize cur[k * 4 + 3]'(by omega) = y3 at *
        clear hB hB4 hsz HR
        go_wp2_with fail
        go_roundw
        case rel => exact ⟨k + 1, by omega, by go_num, HB4, HR4⟩
        case measure => simp [intOf]; omega
    · have hrl := (HRD.out.below HB3.out).below HB.out
      have hri := HRI.out.below HB.out
      have hbw := below_next HB3.out (Nat.le_refl _) HB.out
      clear HR
      obtain ⟨b, hbR⟩ : ∃ b, decide (Right es) = b := ⟨_, rfl⟩
      have HBR := Lib.hid hbR
      clear hbR
      go_wp2_with fail
      refine (right_is A es n c HN.out hnm.out HW.out b HBR.out wr hrl).mono ?_
      rintro e w7 ⟨rfl, hb7⟩
      replace hrl := hrl.below hb7
      replace hri := hri.below hb7
      replace hbw := below_next hbw (Nat.le_refl _) hb7
      clear hb7
      go_wp2_with fail
      refine (refRight_is A es n c HN.out hnm.out HW.out b HBR.out w7 hrl).mono ?_
      rintro e w8 ⟨rfl, hb8⟩
      replace hrl := hrl.below hb8
      replace hri := hri.below hb8
      replace hbw := below_next hbw (Nat.le_refl _) hb8
      clear hb8
      go_wp2_with fail
      refine (same_at Ai A es n ci c HN.out hnm.out w8 hri hrl).mono ?_
      rintro e w9 ⟨rfl, hb9⟩
      go_wp2_with fail
      go_ret
      exact ⟨rfl, below_next hbw (Nat.le_refl _) hb9⟩
set_option maxRecDepth 100000 in
set_option maxHeartbeats 1000000 in
theorem makes_out (w : World) (A : Option Addr) (es : List At) (n c : Nat) (hl : es.length = n) (hc : n ≤ c) (hm : c ≤ maxLen) (rd : RdA w A es) (hw : ∀ a ∈ es, a.n.length ≤ maxLen ∧ a.t.length ≤ maxLen) (hF : ¬ Few es) :
    Calls Try.prog 3 #[.slice A n c] w fun e w' => e = .returned (.bool true) ∧ Below w.heap.size w w' := by
  have hnm : Hid (n ≤ maxLen) := Nat.le_trans hc hm
  have HN := Lib.hid hl
  have HW := Lib.hid hw
  clear hl hc hm hw
  go_enter Try.func3, Try.ntmps3
  go_wp2_with fail
  refine (small_any w).mono ?_
  rintro e w1 ⟨rfl, hb1⟩
  go_wp2_with fail
  refine (few_is A es n c HN.out hnm.out HW.out false (decide_eq_false hF) w1 (rd.below hb1)).mono ?_
  rintro e w2 ⟨rfl, rfl⟩
  clear hF
  go_wp2_with fail
  go_ret
  exact ⟨rfl, hb1⟩
theorem walk_EventMakes (w : World) (A : Option Addr) (es : List At) (n c : Nat) (hl : es.length = n) (hc : n ≤ c) (hm : c ≤ maxLen) (rd : RdA w A es) (hw : ∀ a ∈ es, a.n.length ≤ maxLen ∧ a.t.length ≤ maxLen) :
    Calls Try.prog 3 #[.slice A n c] w fun e w' => e = .returned (.bool true) ∧ Below w.heap.size w w' := by
  by_cases h : Few es
  · exact makes_in w A es n c hl hc hm rd hw h
  · exact makes_out w A es n c hl hc hm rd hw h

/-! ### The row's step. -/
namespace eventMakes
theorem own : ownKnob Try.prog.godebug = none := by kernel_rfl
theorem laidOut : laidOutB Try.prog = true := by kernel_rfl
set_option linter.unusedVariables false in
set_option maxRecDepth 100000 in
theorem lifted (os : Os) (started : os.Started) (H : Type) (enc : TypeId × Value → H) :
    ReturnsInHanded {} Try.checked os 3 .any (Rows.eventMakesSpec.pre6 enc Try.prog Try.f3 Rows.eventMakesRow.domain false) (Rows.eventMakesSpec.post enc Try.prog Try.f3 false true false false) := by
  refine returnsInHanded_of_change_sized (C := Try.checked) own started (by kernel_rfl) Try.func3
    (ChangeSpec.witness6 (enc := enc) (C := Try.checked) false ⟨#[], #[.slice none 0 0], []⟩ 8 (by kernel_rfl) (by kernel_rfl) (by kernel_rfl) (by kernel_rfl)) ?_
  intro W base args ds gs before hval0 hW hcnd hsz0 _
  have hval : ∀ (j : Nat) t v, Try.f3.params[j]? = some t → args[j]? = some v → Value.okWide Try.prog W .any base t v := hval0
  have hsz : (DataW.weightsEach Try.prog (Try.f3.params.toList ++ Rows.eventMakesSpec.plain.varTypes Try.prog) (ds ++ gs)).all (· ≤ reachBytes) = true := hsz0
  have hW' := hW
  obtain ⟨p, q, hA0, hV, rfl, hfz, hnd⟩ := hW
  have hA : DataW.TrodAll enc Try.prog W 0 (fun _ => true) true Try.f3.params.toList args.toList ds p := hA0
  rw [Try.params3] at hA hval hsz
  obtain ⟨v0, vs0, d0, ds0, p0, q0, hargs, rfl, rfl, h0, r0⟩ := trodAll_cons hA
  obtain ⟨rfl, rfl, rfl⟩ := trodAll_nil r0
  obtain rfl : args = #[v0] := by cases args; simp_all
  obtain ⟨rfl, rfl⟩ := trodVars_none hV
  obtain ⟨a0, len0, cap0, rfl⟩ := okWide_slice Try.underlying22 (hval 0 22 v0 rfl rfl)
  have k0 := h0
  have lt0 : ∀ x ∈ p0, x.block < W.heap.size := by obtain ⟨m, hm⟩ := k0; exact DataW.trod_lt m _ _ _ hm
  obtain ⟨es0, hl0, hc0, hm0, rd0, hw0⟩ := open_attrs_of Try.underlying22 Try.underlying32 (by kernel_rfl) ⟨rfl, rfl, by kernel_rfl⟩ ⟨rfl, rfl, by kernel_rfl⟩ Try.underlying9 Try.underlying30 ⟨rfl, rfl, by kernel_rfl⟩ ⟨rfl, rfl, by kernel_rfl⟩ ⟨rfl, rfl, by kernel_rfl⟩ Try.underlying3 Try.underlying3 Try.underlying9 k0
  clear hA0 hval0
  refine (walk_EventMakes W a0 es0 len0 cap0 hl0 hc0 hm0 rd0 hw0).mono fun e W' ⟨he, bel⟩ => ?_
  subst he
  exact ⟨_, rfl, _, _, _, [], _, [], hW', trodAll_mk1 (shut_bool Try.underlying4 _), (trodAll_cons_mk (Below.trod laidOut (by kernel_rfl) (of_decide_eq_true (by kernel_rfl)) k0 bel lt0) trodAll_mk0), rfl, bel.frame _, fun h => by cases h⟩
theorem over : Rows.eventMakesRow.holds Try.pinned (OpenSpec.ofChange Rows.eventMakesSpec) :=
  OpenClaim.holds_of_wide 3 Try.f3 rfl rfl rfl rfl rfl rfl rfl ⟨rfl, rfl, rfl, rfl, rfl⟩ rfl rfl rfl rfl rfl (by kernel_rfl) Try.func3 (by kernel_rfl)
    (of_decide_eq_true (by kernel_rfl)) (by unfold Func.isWrapper; first | (rw [if_pos (by decide +kernel)]; kernel_rfl) | (rw [if_neg (by decide +kernel)]; exact ⟨rfl, rfl⟩))
    (fun os started H enc _ => lifted os started H enc)
end eventMakes
/-- THE STATEMENT. -/
theorem eventMakes_holds : Rows.EventMakesSaid := eventMakes.over
#print axioms eventMakes_holds
end Go.Proofs.Ytmecacgiakbclaa
