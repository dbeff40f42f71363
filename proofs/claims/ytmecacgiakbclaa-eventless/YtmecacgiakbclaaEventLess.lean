/- EventLess holds at this commit: a right event without one of its attributes is right, does not have that attribute, and the event itself has it: any event, any place. No condition. -/
import Derived.Test.YtmecacgiakbclaaESml
namespace Ev
theorem split_at (es : List At) (k : Nat) (hk : k < es.length) : es = es.take k ++ es[k] :: es.drop (k + 1) := by
  rw [← List.drop_eq_getElem_cons hk, List.take_append_drop]
theorem less_right {es : List At} (h : Right es) (k : Nat) (hk : k < es.length) : Right (es.take k ++ es.drop (k + 1)) := by
  have hs : (es.take k ++ es.drop (k + 1)).Sublist es := by
    conv => rhs; rw [split_at es k hk]
    exact List.Sublist.append (List.Sublist.refl _) (List.sublist_cons_self _ _)
  refine ⟨?_, fun a ha => h.2.1 a (hs.subset ha), h.2.2.sublist hs⟩
  have := hs.length_le
  have := h.1
  omega
theorem less_find {es : List At} (h : Right es) (k : Nat) (hk : k < es.length) : find (es.take k ++ es.drop (k + 1)) es[k].n = none := by
  have h2 := h.2.2
  rw [split_at es k hk, List.pairwise_append, List.pairwise_cons] at h2
  refine find_none fun a ha => ?_
  rcases List.mem_append.1 ha with ha | ha
  · exact lt_ne (h2.2.2 a ha _ (List.mem_cons_self ..))
  · exact (lt_ne (h2.2.1.1 a ha)).symm
theorem right_once {es : List At} (h : Right es) : Once es := once_of_sort ⟨.refl _, h.2.2⟩
theorem right_find {es : List At} (h : Right es) (k : Nat) (hk : k < es.length) : find es es[k].n = some es[k] := find_once (right_once h) (List.getElem_mem hk)
end Ev
namespace Go.Proofs.Ytmecacgiakbclaa
open Go.RowKit Go.Sort Ev Go.ChangeShapes Go.WideShapes Go.Deep
theorem few_is (A : Option Addr) (es : List At) (n c : Nat) (hn : es.length = n) (hm : n ≤ maxLen) (hb : ∀ a ∈ es, a.n.length ≤ maxLen ∧ a.t.length ≤ maxLen) (b : Bool) (hF : decide (Few es) = b) (w : World) (hr : RdA w A es) :
    Calls Try.prog 9 #[.slice A n c] w fun e w' => e = .returned (.bool b) ∧ w' = w :=
  (few_at A es n c hn hm hb w hr).mono fun _ _ ⟨h, k⟩ => ⟨by rw [h, hF], k⟩
set_option maxRecDepth 100000 in
set_option maxHeartbeats 2000000 in
theorem less_in (w : World) (A : Option Addr) (es : List At) (n c : Nat) (hl : es.length = n) (hc : n ≤ c) (hm : c ≤ maxLen) (rd : RdA w A es) (hw : ∀ a ∈ es, a.n.length ≤ maxLen ∧ a.t.length ≤ maxLen) (hF : Few es) (k : Nat) (hk : k < n) (hR : Right es) :
    Calls Try.prog 6 #[.slice A n c, .int .i64 (k : Int)] w fun e w' => e = .returned (.bool true) ∧ Below w.heap.size w w' := by
  have hk' : k < es.length := by omega
  have hn24 : n ≤ 24 := by have := hR.1; omega
  have HN := Lib.hid hl
  have hnm : Hid (n ≤ maxLen) := Nat.le_trans hc hm
  have HW := Lib.hid hw
  have HF := Lib.hid (decide_eq_true hF)
  have HRT := Lib.hid (decide_eq_true hR)
  have HRL := Lib.hid (decide_eq_true (less_right hR k hk'))
  have HWL : Hid (∀ a ∈ es.take k ++ es.drop (k + 1), a.n.length ≤ maxLen ∧ a.t.length ≤ maxLen) := fun a ha => by
    rcases List.mem_append.1 ha with ha | ha
    · exact hw a (List.mem_of_mem_take ha)
    · exact hw a (List.mem_of_mem_drop ha)
  obtain ⟨zn, zk, zi, zt, hz⟩ : ∃ zn zk zi zt, es[k] = ⟨zn, zk, zi, zt⟩ := ⟨_, _, _, _, rfl⟩
  have HFN : Hid (find (es.take k ++ es.drop (k + 1)) zn = none) := by have h := less_find hR k hk'; rwa [hz] at h
  have HFS : Hid (find es zn = some ⟨zn, zk, zi, zt⟩) := by have h := right_find hR k hk'; rwa [hz] at h
  have HL1 : Hid ((es.take k).length = k) := by show _ = _; rw [List.length_take]; omega
  have HL2 : Hid ((es.drop (k + 1)).length = n - (k + 1)) := by show _ = _; rw [List.length_drop, hl]
  have HLL : Hid ((es.take k ++ es.drop (k + 1)).length = n - 1) := by show _ = _; rw [List.length_append, HL1.out, HL2.out]; omega
  have HE := Lib.hid hz
  have hhd := run_headA A n c k (by omega) hc
  obtain ⟨A', hct0, hrc⟩ := run_cutA (k := k + 1) rd hl (by omega) hc
  have hct : ∀ W, (Instr.slice 22 (.slice A n c) (some (.int .i64 ((k : Int) + 1))) none none).run Try.prog W = .ok (.slice A' (n - (k + 1)) (c - (k + 1))) W := hct0
  have HRC := Lib.hid hrc
  have HRD := Lib.hid rd
  have q1 : decide ((k : Int) < 0) = false := decide_eq_false (by omega)
  have q2 : decide ((n : Int) ≤ (k : Int)) = false := decide_eq_false (by omega)
  have hwk : IntKind.i64.wrap ((k : Int) + 1) = (k : Int) + 1 := by rw [IntKind.wrap_i64]; omega
  have HC := Lib.hid hc
  clear hl hc hm hw hF hR hz hct0 hrc rd
  go_enter Try.func6, Try.ntmps6
  go_wp2_with fail
  refine (small_any w).mono ?_
  rintro e w1 ⟨rfl, hb1⟩
  go_wp2_with fail
  refine (few_is A es n c HN.out hnm.out HW.out true HF.out w1 (HRD.out.below hb1)).mono ?_
  rintro e w2 ⟨rfl, rfl⟩
  go_wp2_with fail
  refine (right_is A es n c HN.out hnm.out HW.out true HRT.out _ (HRD.out.below hb1)).mono ?_
  rintro e w4 ⟨rfl, hb4⟩
  replace hb4 := below_next hb1 (Nat.le_refl _) hb4
  clear hb1 q1 q2
  go_wp2_with fail
  have hS0 : Below w4.heap.size w4 w4.drew := (Below.refl _ _).drew
  refine wp_region_held_drew (S := fun w' => Below w4.heap.size w4 w') (by kernel_rfl) hS0 (fun _ => ?_)
  refine wpAnyH_yes (i := 1) (d := 34) (v := ?_) rfl rfl (by kernel_rfl) (by kernel_rfl) (by kernel_rfl) (fun _ _ _ h => h) (by rfl) ?_ hS0 ?_
  rotate_left
  · intro w' hSw; go_simp <;> with_reducible rfl
  simp only [Act.put, List.setIfInBounds_toArray, List.set_cons_zero, List.set_cons_succ]
  refine wpAnyH_yes (i := 2) (d := 35) (v := ?_) rfl rfl (by kernel_rfl) (by kernel_rfl) (by kernel_rfl) (fun _ _ _ h => h) (by rfl) ?_ hS0 ?_
  rotate_left
  · intro w' hSw; go_simp <;> with_reducible rfl
  simp only [Act.put, List.setIfInBounds_toArray, List.set_cons_zero, List.set_cons_succ]
  refine wpAnyH_yes (i := 3) (d := 36) (v := ?_) rfl rfl (by kernel_rfl) (by kernel_rfl) (by kernel_rfl) (fun _ _ _ h => h) (by rfl) ?_ hS0 ?_
  rotate_left
  · intro w' hSw; go_simp <;> with_reducible rfl
  simp only [Act.put, List.setIfInBounds_toArray, List.set_cons_zero, List.set_cons_succ]
  refine wpAnyH_yes (i := 5) (d := 38) (v := ?_) rfl rfl (by kernel_rfl) (by kernel_rfl) (by kernel_rfl) (fun _ _ _ h => h) (by rfl) ?_ hS0 ?_
  rotate_left
  · intro w' hSw; go_simp <;> with_reducible rfl
  simp only [Act.put, List.setIfInBounds_toArray, List.set_cons_zero, List.set_cons_succ]
  refine wpAnyH_yes (i := 6) (d := 39) (v := ?_) rfl rfl (by kernel_rfl) (by kernel_rfl) (by kernel_rfl) (fun _ _ _ h => h) (by rfl) ?_ hS0 ?_
  rotate_left
  · intro w' hSw; go_simp <;> with_reducible rfl
  simp only [Act.put, List.setIfInBounds_toArray, List.set_cons_zero, List.set_cons_succ]
  refine wpAnyH_yes (i := 7) (d := 40) (v := ?_) rfl rfl (by kernel_rfl) (by kernel_rfl) (by kernel_rfl) (fun _ _ _ h => h) (by rfl) ?_ hS0 ?_
  rotate_left
  · intro w' hSw; go_simp <;> with_reducible rfl
  simp only [Act.put, List.setIfInBounds_toArray, List.set_cons_zero, List.set_cons_succ]
  refine wpAnyH_yes (i := 8) (d := 41) (v := ?_) rfl rfl (by kernel_rfl) (by kernel_rfl) (by kernel_rfl) (fun _ _ _ h => h) (by rfl) ?_ hS0 ?_
  rotate_left
  · intro w' hSw; go_simp <;> with_reducible rfl
  simp only [Act.put, List.setIfInBounds_toArray, List.set_cons_zero, List.set_cons_succ]
  refine wpAnyH_one (i := 0) (by kernel_rfl) rfl (by rfl) (fun K hK1 => ?_)
  go_simp
  have hb5 : Below w4.heap.size w4 (w4.alloc (.cells #[] 32)).drew := ((Below.refl _ _).alloc (Nat.le_refl _) _).drew
  have hO5 : OwnA (w4.alloc (.cells #[] 32)).drew w4.heap.size (.slice (some ⟨w4.heap.size, 0, none⟩) 0 0) [] := OwnA.empty w4 w4.heap.size (Nat.le_refl _)
  refine hK1.out _ _ hb5 ?_
  refine wpAnyH_one (i := 4) (by kernel_rfl) rfl (by rfl) (fun K hK2 => ?_)
  refine op_append_a (.tmp 33) (.tmp 36) rfl w4.heap.size (.slice (some ⟨w4.heap.size, 0, none⟩) 0 0) [] (by rfl) hO5 A (es.take k) k c (by rfl) (((HRD.out.below hb4).take k).below hb5) HL1.out (by simp; omega) hb5.size ?_
  intro v6 w6 hO6 hb6'
  have hb6 := hb6' w4 hb5
  rw [List.nil_append] at hO6
  refine hK2.out _ _ hb6 ?_
  simp only [Act.put, List.setIfInBounds_toArray, List.set_cons_zero, List.set_cons_succ]
  refine wpAnyH_one (i := 9) (by kernel_rfl) rfl (by rfl) (fun K hK3 => ?_)
  refine op_append_a (.tmp 37) (.tmp 41) rfl w4.heap.size v6 (es.take k) (by rfl) hO6 A' (es.drop (k + 1)) (n - (k + 1)) (c - (k + 1)) (by rfl) ((HRC.out.below hb4).below hb6) HL2.out (by rw [HL1.out]; omega) hb6.size ?_
  intro v7 w7 hO7 hb7'
  have hb7 := hb7' w4 hb6
  obtain ⟨A7, c7, rfl, hc7, hr7⟩ := hO7.rd
  rw [HLL.out] at hc7 ⊢
  refine hK3.out _ _ hb7 ?_
  simp only [Act.put, List.setIfInBounds_toArray, List.set_cons_zero, List.set_cons_succ]
  refine wpAnyH_yes (i := 10) (d := 7) (v := ?_) rfl rfl (by kernel_rfl) (by kernel_rfl) (by kernel_rfl) (fun _ _ _ h => h) (by rfl) ?_ hb7 ?_
  rotate_left
  · intro w' hSw; go_simp <;> with_reducible rfl
  simp only [Act.put, List.setIfInBounds_toArray, List.set_cons_zero, List.set_cons_succ]
  refine wpAnyH_done (by kernel_rfl) ?_ _
  replace hb7 := below_next hb4 (Nat.le_refl _) hb7
  clear hb4 hb5 hO5 hb6 hb6' hO6 hb7' hO7 hhd hct hS0 hwk
  obtain ⟨g, off, rfl, hg, hC⟩ := (HRD.out.below hb7).at_ hk'
  rw [HE.out] at hC
  obtain ⟨z0, z1, z2, z3⟩ := hC
  have HC7 : Hid (Cells w7 g (off + k * 4) ⟨zn, zk, zi, zt⟩) := ⟨z0, z1, z2, z3⟩
  have hk1 : (k : Int) < (n : Int) := by omega
  have hk0 : (0 : Int) ≤ (k : Int) := by omega
  clear z1 z2 z3
  go_wp2_with fail
  refine (get_none A7 _ (n - 1) c7 HLL.out (by unfold maxLen; omega) zn HFN.out w7 hr7).mono ?_
  rintro e w8 ⟨rfl, hb8⟩
  have hb9 := below_next hb8 (Nat.le_refl _) (below_cells w8 #[.int .i64 0, .int .i64 0, .string ⟨#[]⟩] 30)
  have z9 := (HC7.out.below hb9 hg).1
  have hg9 : g < w8.heap.size := Nat.lt_of_lt_of_le hg hb8.size
  have z8 := (HC7.out.below hb8 hg).1
  simp only at z8 z9
  clear z0
  go_wp2_with fail
  generalize w8.alloc (.cells #[.int .i64 0, .int .i64 0, .string ⟨#[]⟩] 30) = w9 at *
  have hr9 := hr7.below hb9
  have HC9 := Lib.hid (HC7.out.below hb9 hg)
  replace hg9 : g < w9.heap.size := Nat.lt_of_lt_of_le hg hb9.size
  replace hb9 := below_next hb7 (Nat.le_refl _) hb9
  clear hb7 hb8 hr7 HC7 z8 z9 hg
  refine (get_some _ es n c HN.out hnm.out zn zn zk zi zt HFS.out w9 (HRD.out.below hb9)).mono ?_
  rintro e w10 ⟨rfl, hb10⟩
  have hb11 := below_next hb10 (Nat.le_refl _) (below_cells w10 #[.int .i64 zk, .int .i64 zi, .string ⟨zt.toArray⟩] 30)
  have hX := Blk.new w10 30 #[.int .i64 zk, .int .i64 zi, .string ⟨zt.toArray⟩]
  go_wp2_with fail
  generalize w10.alloc (.cells #[.int .i64 zk, .int .i64 zi, .string ⟨zt.toArray⟩] 30) = w11 at *
  generalize w10.heap.size = x10 at *
  have hr11 := hr9.below hb11
  have hC11 := HC9.out.below hb11 hg9
  have hg11 : g < w11.heap.size := Nat.lt_of_lt_of_le hg9 hb11.size
  replace hb11 := below_next hb9 (Nat.le_refl _) hb11
  clear hb9 hb10 hr9 HC9 hg9
  have d1 := fun n os => (hC11.grow4 hg11 n os).2.1
  have d2 := fun n os => (hC11.grow4 hg11 n os).2.2.1
  have d3 := fun n os => (hC11.grow4 hg11 n os).2.2.2
  simp only at d1 d2 d3
  have x0 := fun n os => cell_grown (w := w11) (a := ⟨x10, 0, none⟩) hX.lt (hX.cell 0) n os
  have x1 := fun n os => cell_grown (w := w11) (a := ⟨x10, 1, none⟩) hX.lt (hX.cell 1) n os
  have x2 := fun n os => cell_grown (w := w11) (a := ⟨x10, 2, none⟩) hX.lt (hX.cell 2) n os
  simp at x0 x1 x2
  have hcall : ∀ n' os', Calls Try.prog 13 #[.slice A7 (n - 1) c7] (grow (w11.drewN n') os') fun e w' => e = .returned (.bool true) ∧ ∃ q os'', w' = grow ((grow (w11.drewN n') os').drewN q) os'' := fun n' os' =>
    (eright_at A7 _ (n - 1) c7 HLL.out (by unfold maxLen; omega) HWL.out _ (hr11.below ((Grown.refl _).more n' os').below)).mono fun _ _ ⟨h, k⟩ => ⟨by rw [h, HRL.out], k⟩
  have hG := eqGuardV
  clear hC11 hX hr11
  (refine hq_region mixedT (by kernel_rfl) ?_; (repeat (refine hq_step (fun K hK => ?_); go_simp; first | (refine hK _ ?_; clear hK K) | (apply Exists.intro; refine ⟨fun _ => ?_, hK _ ?_⟩; (go_at_call 13; refine Calls.grown_of (hcall _ _)); clear hK K))); refine hq_nil ?_; intro _ hw'; obtain ⟨⟨nq, osq⟩, hw''⟩ := hw'; subst hw'')
  go_wp2_with fail
  go_ret
  exact ⟨rfl, below_next hb11 (Nat.le_refl _) ((Grown.refl _).more _ _).below⟩
set_option maxRecDepth 100000 in
set_option maxHeartbeats 1000000 in
theorem less_out (w : World) (A : Option Addr) (es : List At) (n c : Nat) (hl : es.length = n) (hc : n ≤ c) (hm : c ≤ maxLen) (rd : RdA w A es) (hw : ∀ a ∈ es, a.n.length ≤ maxLen ∧ a.t.length ≤ maxLen) (p : Int) (h : ¬ Few es ∨ p < 0 ∨ (n : Int) ≤ p ∨ ¬ Right es) :
    Calls Try.prog 6 #[.slice A n c, .int .i64 p] w fun e w' => e = .returned (.bool true) ∧ Below w.heap.size w w' := by
  have hnm : Hid (n ≤ maxLen) := Nat.le_trans hc hm
  have HN := Lib.hid hl
  have HW := Lib.hid hw
  clear hl hc hm hw
  go_enter Try.func6, Try.ntmps6
  go_wp2_with fail
  refine (small_any w).mono ?_
  rintro e w1 ⟨rfl, hb1⟩
  have rd1 := rd.below hb1
  clear rd
  go_wp2_with fail
  by_cases hF : Few es
  · refine (few_is A es n c HN.out hnm.out HW.out true (decide_eq_true hF) w1 rd1).mono ?_
    rintro e w2 ⟨rfl, rfl⟩
    by_cases h1 : p < 0
    · have q1 : decide (p < 0) = true := decide_eq_true h1
      clear h h1 hF
      go_wp2_with fail
      go_ret
      exact ⟨rfl, hb1⟩
    · have q1 : decide (p < 0) = false := decide_eq_false h1
      by_cases h2 : (n : Int) ≤ p
      · have q2 : decide ((n : Int) ≤ p) = true := decide_eq_true h2
        clear h h1 h2 hF
        go_wp2_with fail
        go_ret
        exact ⟨rfl, hb1⟩
      · have q2 : decide ((n : Int) ≤ p) = false := decide_eq_false h2
        have HR : Hid (decide (Right es) = false) := decide_eq_false (by rcases h with h | h | h | h <;> first | exact absurd hF h | exact absurd h h1 | exact absurd h h2 | exact h)
        clear h h1 h2 hF
        go_wp2_with fail
        refine (right_is A es n c HN.out hnm.out HW.out false HR.out _ rd1).mono ?_
        rintro e w4 ⟨rfl, hb4⟩
        go_wp2_with fail
        go_ret
        exact ⟨rfl, below_next hb1 (Nat.le_refl _) hb4⟩
  · refine (few_is A es n c HN.out hnm.out HW.out false (decide_eq_false hF) w1 rd1).mono ?_
    rintro e w2 ⟨rfl, rfl⟩
    clear hF h
    go_wp2_with fail
    go_ret
    exact ⟨rfl, hb1⟩
theorem walk_EventLess (w : World) (A : Option Addr) (es : List At) (n c : Nat) (hl : es.length = n) (hc : n ≤ c) (hm : c ≤ maxLen) (rd : RdA w A es) (hw : ∀ a ∈ es, a.n.length ≤ maxLen ∧ a.t.length ≤ maxLen) (p : Int) (_ : (Lit.int .i64 p).wf = true) :
    Calls Try.prog 6 #[.slice A n c, .int .i64 p] w fun e w' => e = .returned (.bool true) ∧ Below w.heap.size w w' := by
  by_cases h : ¬ Few es ∨ p < 0 ∨ (n : Int) ≤ p ∨ ¬ Right es
  · exact less_out w A es n c hl hc hm rd hw p h
  · obtain ⟨k, rfl⟩ := Int.eq_ofNat_of_zero_le (show 0 ≤ p by omega)
    have h1 : Few es := Decidable.of_not_not fun hn => h (.inl hn)
    have h2 : Right es := Decidable.of_not_not fun hn => h (.inr (.inr (.inr hn)))
    exact less_in w A es n c hl hc hm rd hw h1 k (by omega) h2

/-! ### The row's step. -/
namespace eventLess
theorem own : ownKnob Try.prog.godebug = none := by kernel_rfl
theorem laidOut : laidOutB Try.prog = true := by kernel_rfl
set_option linter.unusedVariables false in
set_option maxRecDepth 100000 in
theorem lifted (os : Os) (started : os.Started) (H : Type) (enc : TypeId × Value → H) :
    ReturnsInHanded {} Try.checked os 6 .any (Rows.eventLessSpec.pre6 enc Try.prog Try.f6 Rows.eventLessRow.domain false) (Rows.eventLessSpec.post enc Try.prog Try.f6 false true false false) := by
  refine returnsInHanded_of_change_sized (C := Try.checked) own started (by kernel_rfl) Try.func6
    (ChangeSpec.witness6 (enc := enc) (C := Try.checked) false ⟨#[], #[.slice none 0 0, .int .i64 0], []⟩ 8 (by kernel_rfl) (by kernel_rfl) (by kernel_rfl) (by kernel_rfl)) ?_
  intro W base args ds gs before hval0 hW hcnd hsz0 _
  have hval : ∀ (j : Nat) t v, Try.f6.params[j]? = some t → args[j]? = some v → Value.okWide Try.prog W .any base t v := hval0
  have hsz : (DataW.weightsEach Try.prog (Try.f6.params.toList ++ Rows.eventLessSpec.plain.varTypes Try.prog) (ds ++ gs)).all (· ≤ reachBytes) = true := hsz0
  have hW' := hW
  obtain ⟨p, q, hA0, hV, rfl, hfz, hnd⟩ := hW
  have hA : DataW.TrodAll enc Try.prog W 0 (fun _ => true) true Try.f6.params.toList args.toList ds p := hA0
  rw [Try.params6] at hA hval hsz
  obtain ⟨v0, vs0, d0, ds0, p0, q0, hargs, rfl, rfl, h0, r0⟩ := trodAll_cons hA
  obtain ⟨v1, vs1, d1, ds1, p1, q1, rfl, rfl, rfl, h1, r1⟩ := trodAll_cons r0
  obtain ⟨rfl, rfl, rfl⟩ := trodAll_nil r1
  obtain rfl : args = #[v0, v1] := by cases args; simp_all
  obtain ⟨rfl, rfl⟩ := trodVars_none hV
  obtain ⟨a0, len0, cap0, rfl⟩ := okWide_slice Try.underlying22 (hval 0 22 v0 rfl rfl)
  have k0 := h0
  have lt0 : ∀ x ∈ p0, x.block < W.heap.size := by obtain ⟨m, hm⟩ := k0; exact DataW.trod_lt m _ _ _ hm
  obtain ⟨es0, hl0, hc0, hm0, rd0, hw0⟩ := open_attrs_of Try.underlying22 Try.underlying32 (by kernel_rfl) ⟨rfl, rfl, by kernel_rfl⟩ ⟨rfl, rfl, by kernel_rfl⟩ Try.underlying9 Try.underlying30 ⟨rfl, rfl, by kernel_rfl⟩ ⟨rfl, rfl, by kernel_rfl⟩ ⟨rfl, rfl, by kernel_rfl⟩ Try.underlying3 Try.underlying3 Try.underlying9 k0
  obtain ⟨a1, rfl, rfl, rfl, w1⟩ := open_int Try.underlying3 (hval 1 3 v1 rfl rfl) h1
  clear hA0 hval0
  refine (walk_EventLess W a0 es0 len0 cap0 hl0 hc0 hm0 rd0 hw0 a1 w1).mono fun e W' ⟨he, bel⟩ => ?_
  subst he
  exact ⟨_, rfl, _, _, _, [], _, [], hW', trodAll_mk1 (shut_bool Try.underlying4 _), (trodAll_cons_mk (Below.trod laidOut (by kernel_rfl) (of_decide_eq_true (by kernel_rfl)) k0 bel lt0) (trodAll_cons_mk (shut_int Try.underlying3 w1) trodAll_mk0)), rfl, bel.frame _, fun h => by cases h⟩
theorem over : Rows.eventLessRow.holds Try.pinned (OpenSpec.ofChange Rows.eventLessSpec) :=
  OpenClaim.holds_of_wide 6 Try.f6 rfl rfl rfl rfl rfl rfl rfl ⟨rfl, rfl, rfl, rfl, rfl⟩ rfl rfl rfl rfl rfl (by kernel_rfl) Try.func6 (by kernel_rfl)
    (of_decide_eq_true (by kernel_rfl)) (by unfold Func.isWrapper; first | (rw [if_pos (by decide +kernel)]; kernel_rfl) | (rw [if_neg (by decide +kernel)]; exact ⟨rfl, rfl⟩))
    (fun os started H enc _ => lifted os started H enc)
end eventLess
/-- THE STATEMENT. -/
theorem eventLess_holds : Rows.EventLessSaid := eventLess.over
#print axioms eventLess_holds
end Go.Proofs.Ytmecacgiakbclaa
