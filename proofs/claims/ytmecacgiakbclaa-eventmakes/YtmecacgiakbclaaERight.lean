/- Is an event right? By the program, and by the document. -/
import Derived.Test.YtmecacgiakbclaaEOne
import Derived.Test.YtmecacgiakbclaaQuiet
namespace Go.Proofs.Ytmecacgiakbclaa
open Go.RowKit Go.Sort Ev
theorem Cells.grow4 {w : World} {g o : Nat} {a : At} (h : Cells w g o a) (hg : g < w.heap.size) (n : Nat) (os : Array Obj) :
    (grow (w.drewN n) os).cell? ⟨g, o, none⟩ = some (.string ⟨a.n.toArray⟩) ∧ (grow (w.drewN n) os).cell? ⟨g, o + 1, none⟩ = some (.int .i64 a.k) ∧ (grow (w.drewN n) os).cell? ⟨g, o + 2, none⟩ = some (.int .i64 a.i) ∧ (grow (w.drewN n) os).cell? ⟨g, o + 3, none⟩ = some (.string ⟨a.t.toArray⟩) :=
  ⟨cell_grown (a := ⟨g, o, none⟩) hg h.1 n os, cell_grown (a := ⟨g, o + 1, none⟩) hg h.2.1 n os, cell_grown (a := ⟨g, o + 2, none⟩) hg h.2.2.1 n os, cell_grown (a := ⟨g, o + 3, none⟩) hg h.2.2.2 n os⟩
theorem take_fine {es : List At} {k : Nat} (h : ∀ j, j < k → Fine es j) (hk : Fine es k) : ∀ j, j < k + 1 → Fine es j := by
  intro j hj
  rcases Nat.lt_or_ge j k with h1 | h1
  · exact h j h1
  · obtain rfl : j = k := by omega
    exact hk
theorem right_yes {es : List At} (h1 : es.length ≤ 24) (h : ∀ j, j < es.length → Fine es j) : decide (Right es) = true := by
  refine decide_eq_true ((right_iff es).2 ⟨h1, fun k hk => h k hk hk⟩)
theorem right_no {es : List At} (h1 : 24 < es.length) : decide (Right es) = false := decide_eq_false fun h => by have := h.1; omega
theorem right_not {es : List At} {k : Nat} (h : ¬ Fine es k) : decide (Right es) = false := decide_eq_false fun hR => h (((right_iff es).1 hR).2 k)
set_option maxRecDepth 100000 in
set_option maxHeartbeats 1000000 in
theorem eright_at (A : Option Addr) (es : List At) (n c : Nat) (hn : es.length = n) (hm : n ≤ maxLen) (hb : ∀ a ∈ es, a.n.length ≤ maxLen ∧ a.t.length ≤ maxLen) (w : World) (hr : RdA w A es) :
    Calls Try.prog 13 #[.slice A n c] w fun e w' => e = .returned (.bool (decide (Right es))) ∧ Grown w w' := by
  have HN := Lib.hid hn
  rw [maxLen_num] at hm
  simp only [maxLen_num] at hb
  clear hn
  by_cases h24 : n ≤ 24
  · go_enter Try.func13, Try.ntmps13
    have q24 : decide ((24 : Int) < (n : Int)) = false := by simp; omega
    go_wp2_with fail
    clear q24
    go_loopw [10] (fun i wr => ∃ k : Nat, k ≤ n ∧ i = .int .i64 (k : Int) ∧ Hid (Grown w wr) ∧ Hid (∀ j, j < k → Fine es j)) (fun i _ => n - (intOf i).toNat)
    case atStart => exact ⟨0, by omega, rfl, Grown.refl w, fun j hj => absurd hj (by omega)⟩
    case round =>
      obtain ⟨k, hk, rfl, HG, HA⟩ := hrel
      by_cases hlt : k < n
      · have hk' : k < es.length := by rw [HN.out]; exact hlt
        obtain ⟨g, off, rfl, hg, hC⟩ := (hr.below HG.out.below).at_ hk'
        obtain ⟨b1, b2⟩ := hb _ (List.getElem_mem hk')
        have hP : 0 < k → ∃ p, Hid (es[k - 1]'(by omega) = p) ∧ Cells wr g (off + (k - 1) * 4) p := fun h0 => by
          obtain ⟨g', off', e, _, hC'⟩ := (hr.below HG.out.below).at_ (k := k - 1) (by omega)
          cases e
          exact ⟨_, rfl, hC'⟩
        obtain ⟨z, hz⟩ : ∃ z, es[k] = z := ⟨_, rfl⟩
        have HZ := Lib.hid hz
        rw [hz] at hC b1 b2
        clear hz
        obtain ⟨zn, zk, zi, zt⟩ := z
        obtain ⟨c0, c1, c2, c3⟩ := hC
        clear hr hb
        go_wp2_with fail
        have hB := Blk.new wr 32 #[.string ⟨zn.toArray⟩, .int .i64 zk, .int .i64 zi, .string ⟨zt.toArray⟩]
        have HG2 := Lib.hid (HG.out.alloc (.cells #[.string ⟨zn.toArray⟩, .int .i64 zk, .int .i64 zi, .string ⟨zt.toArray⟩] 32))
        have hP2 : 0 < k → ∃ p, Hid (es[k - 1]'(by omega) = p) ∧ Cells (wr.alloc (.cells #[.string ⟨zn.toArray⟩, .int .i64 zk, .int .i64 zi, .string ⟨zt.toArray⟩] 32)) g (off + (k - 1) * 4) p := fun h0 => by
          obtain ⟨p, e, hc⟩ := hP h0
          exact ⟨p, e, hc.below ((Below.refl _ _).alloc (Nat.le_refl _) _) hg⟩
        have hg2 : g < (wr.alloc (.cells #[.string ⟨zn.toArray⟩, .int .i64 zk, .int .i64 zi, .string ⟨zt.toArray⟩] 32)).heap.size := by simp; omega
        generalize wr.alloc (.cells #[.string ⟨zn.toArray⟩, .int .i64 zk, .int .i64 zi, .string ⟨zt.toArray⟩] 32) = w1 at *
        clear hP c0 c1 c2 c3 HG
        obtain ⟨G, hG⟩ : ∃ G, wr.heap.size = G := ⟨_, rfl⟩
        rw [hG] at hB ⊢
        clear hG
        have d0 := fun n os => cell_grown (w := w1) (a := ⟨G, 0, none⟩) hB.lt (hB.cell 0) n os
        have d1 := fun n os => cell_grown (w := w1) (a := ⟨G, 1, none⟩) hB.lt (hB.cell 1) n os
        have d2 := fun n os => cell_grown (w := w1) (a := ⟨G, 2, none⟩) hB.lt (hB.cell 2) n os
        have d3 := fun n os => cell_grown (w := w1) (a := ⟨G, 3, none⟩) hB.lt (hB.cell 3) n os
        simp at d0 d1 d2 d3
        have hcall : ∀ n' os', Calls Try.prog 18 #[.agg #[.string ⟨zn.toArray⟩, .int .i64 zk, .int .i64 zi, .string ⟨zt.toArray⟩]] (grow (w1.drewN n') os') fun e w' => e = .returned (.bool (ok ⟨zn, zk, zi, zt⟩)) ∧ ∃ q os'', w' = grow ((grow (w1.drewN n') os').drewN q) os'' := fun n' os' => rightAttr_at zn zk zi zt _ b1 b2
        cases hok : ok ⟨zn, zk, zi, zt⟩ with
        | false =>
          have HF : Hid (decide (Right es) = false) := right_not (k := k) fun h => by
            have := (h hk').1; rw [HZ.out, hok] at this; cases this
          rw [hok] at hcall
          clear hP2 hok
          (refine hq_region mixedT (by kernel_rfl) ?_; (repeat (refine hq_step (fun K hK => ?_); go_simp; first | (refine hK _ ?_; clear hK K) | (apply Exists.intro; refine ⟨fun _ => ?_, hK _ ?_⟩; (go_at_call 18; refine Calls.grown_of (hcall _ _)); clear hK K))); refine hq_nil ?_; intro _ hw'; obtain ⟨⟨nq, osq⟩, hw''⟩ := hw'; subst hw'')
          go_wp2_with fail
          go_ret
          exact ⟨ret_bool HF.out.symm, HG2.out.more _ _⟩
        | true =>
          rw [hok] at hcall
          by_cases h0 : k = 0
          · subst h0
            have HA2 : Hid (∀ j, j < 0 + 1 → Fine es j) := take_fine HA.out fun h => ⟨by rw [HZ.out]; exact hok, fun h => absurd h (by omega)⟩
            clear hP2 hok HA
            (refine hq_region mixedT (by kernel_rfl) ?_; (repeat (refine hq_step (fun K hK => ?_); go_simp; first | (refine hK _ ?_; clear hK K) | (apply Exists.intro; refine ⟨fun _ => ?_, hK _ ?_⟩; (go_at_call 18; refine Calls.grown_of (hcall _ _)); clear hK K))); refine hq_nil ?_; intro _ hw'; obtain ⟨⟨nq, osq⟩, hw''⟩ := hw'; subst hw'')
            go_wp2_with fail
            go_roundw
            case rel => exact ⟨0 + 1, by omega, by go_num, HG2.out.more _ _, HA2⟩
            case measure => simp [intOf]; omega
          · obtain ⟨q, rfl⟩ : ∃ q, k = q + 1 := ⟨k - 1, by omega⟩
            obtain ⟨p, HP, hCp⟩ := hP2 (by omega)
            replace hCp : Cells w1 g (off + q * 4) p := hCp
            replace HP : Hid (es[q]'(by omega) = p) := HP
            clear hP2
            have hp0 := fun n os => (hCp.grow4 hg2 n os).1
            obtain ⟨pn, pk, pi, pt⟩ := p
            simp only at hp0
            clear hCp
            have hwq : IntKind.i64.wrap (q : Int) = (q : Int) := by rw [IntKind.wrap_i64]; omega
            have hq0 : (0 : Int) ≤ (q : Int) := by omega
            have hq1 : (q : Int) < (n : Int) := by omega
            have hq2 : q < n := by omega
            cases hl : Op.bytesLess pn zn with
            | true =>
              have HA2 : Hid (∀ j, j < q + 1 + 1 → Fine es j) := take_fine HA.out fun h => ⟨by rw [HZ.out]; exact hok, fun _ => by rw [HZ.out]; show lt (es[q]'(by omega)) _; rw [HP.out]; exact hl⟩
              clear hok HA
              (refine hq_region mixedT (by kernel_rfl) ?_; (repeat (refine hq_step (fun K hK => ?_); go_simp; first | (refine hK _ ?_; clear hK K) | (apply Exists.intro; refine ⟨fun _ => ?_, hK _ ?_⟩; (go_at_call 18; refine Calls.grown_of (hcall _ _)); clear hK K))); refine hq_nil ?_; intro _ hw'; obtain ⟨⟨nq, osq⟩, hw''⟩ := hw'; subst hw'')
              go_wp2_with fail
              go_roundw
              case rel => exact ⟨q + 1 + 1, by omega, by go_num, HG2.out.more _ _, HA2⟩
              case measure => simp [intOf]; omega
            | false =>
              have HF : Hid (decide (Right es) = false) := right_not (k := q + 1) fun h => by
                have := (h hk').2 (by omega)
                rw [HZ.out] at this
                replace this : lt (es[q]'(by omega)) ⟨zn, zk, zi, zt⟩ := this
                rw [HP.out] at this
                unfold lt at this
                rw [hl] at this; cases this
              clear hok HA
              (refine hq_region mixedT (by kernel_rfl) ?_; (repeat (refine hq_step (fun K hK => ?_); go_simp; first | (refine hK _ ?_; clear hK K) | (apply Exists.intro; refine ⟨fun _ => ?_, hK _ ?_⟩; (go_at_call 18; refine Calls.grown_of (hcall _ _)); clear hK K))); refine hq_nil ?_; intro _ hw'; obtain ⟨⟨nq, osq⟩, hw''⟩ := hw'; subst hw'')
              go_wp2_with fail
              go_ret
              exact ⟨ret_bool HF.out.symm, HG2.out.more _ _⟩
      · have HF : Hid (decide (Right es) = true) := right_yes (by rw [HN.out]; exact h24) (fun j hj => HA.out j (by rw [HN.out] at hj; omega))
        go_wp2_with fail
        go_ret
        exact ⟨ret_bool HF.out.symm, HG.out⟩
  · have HF : Hid (decide (Right es) = false) := right_no (by rw [HN.out]; omega)
    have q24 : decide ((24 : Int) < (n : Int)) = true := by simp; omega
    go_enter Try.func13, Try.ntmps13
    go_wp2_with fail
    go_ret
    exact ⟨ret_bool HF.out.symm, Grown.refl _⟩
theorem text_gr (a b : List UInt8) (hl : a.length ≤ 9223372036854775807) (hl2 : b.length ≤ 9223372036854775807) (w : World) :
    Calls Try.prog 23 #[.string ⟨a.toArray⟩, .string ⟨b.toArray⟩] w fun e w' => e = .returned (.int .i64 (Vals.cmpT a b)) ∧ ∃ q os, w' = grow (w.drewN q) os :=
  (refCmpText_dn a b hl hl2 w).mono fun _ _ ⟨h, n, k⟩ => ⟨h, n, #[], by rw [grow_empty]; exact k⟩
theorem cmpT_less (a b : List UInt8) : Vals.cmpT a b < 0 ↔ Op.bytesLess a b = true := by
  unfold Vals.cmpT
  cases h : Op.bytesLess a b
  · simp; split <;> omega
  · simp
set_option maxRecDepth 100000 in
set_option maxHeartbeats 1000000 in
theorem refERight_at (A : Option Addr) (es : List At) (n c : Nat) (hn : es.length = n) (hm : n ≤ maxLen) (hb : ∀ a ∈ es, a.n.length ≤ maxLen ∧ a.t.length ≤ maxLen) (w : World) (hr : RdA w A es) :
    Calls Try.prog 14 #[.slice A n c] w fun e w' => e = .returned (.bool (decide (Right es))) ∧ Grown w w' := by
  have HN := Lib.hid hn
  rw [maxLen_num] at hm
  simp only [maxLen_num] at hb
  clear hn
  go_enter Try.func14, Try.ntmps14
  go_wp2_with fail
  go_loopw [3] (fun i wr => ∃ k : Nat, k ≤ n ∧ i = .int .i64 (k : Int) ∧ Hid (Grown w wr) ∧ Hid (∀ j, j < k → Fine es j)) (fun i _ => n - (intOf i).toNat)
  case atStart => exact ⟨0, by omega, rfl, Grown.refl w, fun j hj => absurd hj (by omega)⟩
  case round =>
    obtain ⟨k, hk, rfl, HG, HA⟩ := hrel
    by_cases hlt : k < n
    · have hk' : k < es.length := by rw [HN.out]; exact hlt
      obtain ⟨g, off, rfl, hg, hC⟩ := (hr.below HG.out.below).at_ hk'
      obtain ⟨b1, b2⟩ := hb _ (List.getElem_mem hk')
      have hP : 0 < k → ∃ p, Hid (es[k - 1]'(by omega) = p) ∧ p.n.length ≤ 9223372036854775807 ∧ Cells wr g (off + (k - 1) * 4) p := fun h0 => by
        obtain ⟨g', off', e, _, hC'⟩ := (hr.below HG.out.below).at_ (k := k - 1) (by omega)
        cases e
        exact ⟨_, rfl, (hb _ (List.getElem_mem _)).1, hC'⟩
      obtain ⟨z, hz⟩ : ∃ z, es[k] = z := ⟨_, rfl⟩
      have HZ := Lib.hid hz
      rw [hz] at hC b1 b2
      clear hz
      obtain ⟨zn, zk, zi, zt⟩ := z
      obtain ⟨c0, c1, c2, c3⟩ := hC
      clear hr hb
      have hk1 : (k : Int) < (n : Int) := by omega
      go_wp2_with fail
      refine (one_at zn zk zi zt _ b1 b2).mono ?_
      rintro e w1 ⟨rfl, hgr⟩
      have hbl := hgr.below
      have c0' : w1.cell? ⟨g, off + k * 4, none⟩ = some (.string ⟨zn.toArray⟩) := (hbl.cell (p := ⟨g, off + k * 4, none⟩) hg).trans c0
      have hP2 : 0 < k → ∃ p, Hid (es[k - 1]'(by omega) = p) ∧ p.n.length ≤ 9223372036854775807 ∧ Cells w1 g (off + (k - 1) * 4) p := fun h0 => by
        obtain ⟨p, e, hl, hc⟩ := hP h0
        exact ⟨p, e, hl, hc.below hbl hg⟩
      have hg2 : g < w1.heap.size := Nat.lt_of_lt_of_le hg hbl.size
      have HG2 := Lib.hid (HG.out.trans hgr)
      clear hP c0 c1 c2 c3 HG hgr hbl
      have d0 := fun n os => cell_grown (w := w1) (a := ⟨g, off + k * 4, none⟩) hg2 c0' n os
      clear c0'
      cases hok : ok ⟨zn, zk, zi, zt⟩ with
      | false =>
        have HF : Hid (decide (Right es) = false) := right_not (k := k) fun h => by
          have := (h hk').1; rw [HZ.out, hok] at this; cases this
        clear hP2 hok
        go_wp2_with fail
        (refine hq_region mixedT (by kernel_rfl) ?_; (repeat (refine hq_step (fun K hK => ?_); go_simp; first | (refine hK _ ?_; clear hK K) | (apply Exists.intro; refine ⟨fun _ => ?_, hK _ ?_⟩; (fail); clear hK K))); refine hq_nil ?_; intro _ hw'; obtain ⟨⟨nq, osq⟩, hw''⟩ := hw'; subst hw'')
        go_wp2_with fail
        go_ret
        exact ⟨ret_bool HF.out.symm, HG2.out.more _ _⟩
      | true =>
        by_cases h0 : k = 0
        · subst h0
          have HA2 : Hid (∀ j, j < 0 + 1 → Fine es j) := take_fine HA.out fun h => ⟨by rw [HZ.out]; exact hok, fun h => absurd h (by omega)⟩
          clear hP2 hok HA
          go_wp2_with fail
          (refine hq_region mixedT (by kernel_rfl) ?_; (repeat (refine hq_step (fun K hK => ?_); go_simp; first | (refine hK _ ?_; clear hK K) | (apply Exists.intro; refine ⟨fun _ => ?_, hK _ ?_⟩; (fail); clear hK K))); refine hq_nil ?_; intro _ hw'; obtain ⟨⟨nq, osq⟩, hw''⟩ := hw'; subst hw'')
          go_wp2_with fail
          go_roundw
          case rel => exact ⟨0 + 1, by omega, by go_num, HG2.out.more _ _, HA2⟩
          case measure => simp [intOf]; omega
        · obtain ⟨q, rfl⟩ : ∃ q, k = q + 1 := ⟨k - 1, by omega⟩
          obtain ⟨p, HP, hpl, hCp⟩ := hP2 (by omega)
          replace hCp : Cells w1 g (off + q * 4) p := hCp
          replace HP : Hid (es[q]'(by omega) = p) := HP
          clear hP2
          have hp0 := fun n os => (hCp.grow4 hg2 n os).1
          obtain ⟨pn, pk, pi, pt⟩ := p
          simp only at hp0 hpl
          clear hCp
          have hwq : IntKind.i64.wrap (q : Int) = (q : Int) := by rw [IntKind.wrap_i64]; omega
          have hq0 : (0 : Int) ≤ (q : Int) := by omega
          have hq1 : (q : Int) < (n : Int) := by omega
          have hq2 : q < n := by omega
          have hq3 : (0 : Int) ≤ (q : Int) + 1 := by omega
          have hq4 : (q : Int) + 1 < (n : Int) := by omega
          have hq5 : ((q : Int) + 1).toNat = q + 1 := by omega
          have hcall : ∀ n' os', Calls Try.prog 23 #[.string ⟨pn.toArray⟩, .string ⟨zn.toArray⟩] (grow (w1.drewN n') os') fun e w' => e = .returned (.int .i64 (Vals.cmpT pn zn)) ∧ ∃ q os'', w' = grow ((grow (w1.drewN n') os').drewN q) os'' := fun n' os' => text_gr pn zn hpl b1 _
          cases hl : Op.bytesLess pn zn with
          | true =>
            have HA2 : Hid (∀ j, j < q + 1 + 1 → Fine es j) := take_fine HA.out fun h => ⟨by rw [HZ.out]; exact hok, fun _ => by rw [HZ.out]; show lt (es[q]'(by omega)) _; rw [HP.out]; exact hl⟩
            have hd : decide ((0 : Int) ≤ Vals.cmpT pn zn) = false := decide_eq_false fun h => by have := (cmpT_less pn zn).2 hl; omega
            generalize Vals.cmpT pn zn = ct at *
            clear hok HA hl
            go_wp2_with fail
            (refine hq_region mixedT (by kernel_rfl) ?_; (repeat (refine hq_step (fun K hK => ?_); go_simp; first | (refine hK _ ?_; clear hK K) | (apply Exists.intro; refine ⟨fun _ => ?_, hK _ ?_⟩; (go_at_call 23; refine Calls.grown_of (hcall _ _)); clear hK K))); refine hq_nil ?_; intro _ hw'; obtain ⟨⟨nq, osq⟩, hw''⟩ := hw'; subst hw'')
            go_wp2_with fail
            go_roundw
            case rel => exact ⟨q + 1 + 1, by omega, by go_num, HG2.out.more _ _, HA2⟩
            case measure => simp [intOf]; omega
          | false =>
            have HF : Hid (decide (Right es) = false) := right_not (k := q + 1) fun h => by
              have := (h hk').2 (by omega)
              rw [HZ.out] at this
              replace this : lt (es[q]'(by omega)) ⟨zn, zk, zi, zt⟩ := this
              rw [HP.out] at this
              unfold lt at this
              rw [hl] at this; cases this
            have hd : decide ((0 : Int) ≤ Vals.cmpT pn zn) = true := decide_eq_true (by
              rcases Int.lt_or_le (Vals.cmpT pn zn) 0 with h | h
              · rw [(cmpT_less pn zn).1 h] at hl; cases hl
              · exact h)
            generalize Vals.cmpT pn zn = ct at *
            clear hok HA hl
            go_wp2_with fail
            (refine hq_region mixedT (by kernel_rfl) ?_; (repeat (refine hq_step (fun K hK => ?_); go_simp; first | (refine hK _ ?_; clear hK K) | (apply Exists.intro; refine ⟨fun _ => ?_, hK _ ?_⟩; (go_at_call 23; refine Calls.grown_of (hcall _ _)); clear hK K))); refine hq_nil ?_; intro _ hw'; obtain ⟨⟨nq, osq⟩, hw''⟩ := hw'; subst hw'')
            go_wp2_with fail
            go_ret
            exact ⟨ret_bool HF.out.symm, HG2.out.more _ _⟩
    · by_cases h24 : n ≤ 24
      · have HF : Hid (decide (Right es) = true) := right_yes (by rw [HN.out]; exact h24) (fun j hj => HA.out j (by rw [HN.out] at hj; omega))
        have q24 : decide ((n : Int) ≤ 24) = true := by simp; omega
        go_wp2_with fail
        go_ret
        exact ⟨ret_bool HF.out.symm, HG.out⟩
      · have HF : Hid (decide (Right es) = false) := right_no (by rw [HN.out]; omega)
        have q24 : decide ((n : Int) ≤ 24) = false := by simp; omega
        go_wp2_with fail
        go_ret
        exact ⟨ret_bool HF.out.symm, HG.out⟩
end Go.Proofs.Ytmecacgiakbclaa
