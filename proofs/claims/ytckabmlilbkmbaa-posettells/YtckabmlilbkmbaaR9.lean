/- Contracts of the program and of the document (RTop, REdge), each used further on. -/
import Derived.Test.YtckabmlilbkmbaaP4
import Derived.Test.YtckabmlilbkmbaaR8
namespace Go.Proofs.Ytckabmlilbkmbaa
open Go.RowKit Go.ChangeShapes Go.WideShapes Go.Deep Go.Sort Spans Tb
set_option maxRecDepth 100000 in
set_option maxHeartbeats 4000000 in
theorem rtops_at (A : Option Addr) (es : List Ex) (n c : Nat) (hn : es.length = n) (hm : n ≤ 1000) (hf : EFew es) (w : World) (hr : RdEn w A es) (q : Nat → Nat → Bool) (hq : Abvs es n q) :
    Calls Try.prog 16 #[.slice A n c] w (GivesI w (Po.topsL q (idAt es) n)) := by
  have HN := Lib.hid hn
  have HF := Lib.hid hf
  have HR := Lib.hid hr
  have HQ := Lib.hid hq
  obtain ⟨id, hid⟩ : ∃ id, idAt es = id := ⟨_, rfl⟩
  have HID := Lib.hid hid
  rw [hid]
  clear hn hf hr hq hid
  go_enter Try.func16, Try.ntmps16
  go_wp2_with fail
  go_loopg [3, 4] n (fun gg s3 s4 wr => ∃ (i m d : Nat) (B : Option Addr), i ≤ n ∧ n - i ≤ gg ∧ s4 = .int .i64 (i : Int) ∧ s3 = .slice B m d ∧ m ≤ d ∧ m ≤ i ∧ Hid ((Po.topsTo q id n i).length = m) ∧ Hid (OwnZ layI wr w.heap.size (.slice B m d) (Po.topsTo q id n i)) ∧ Hid (Below w.heap.size w wr))
  case atStart => exact ⟨0, 0, 0, none, Nat.zero_le _, by omega, rfl, rfl, Nat.le_refl _, Nat.le_refl _, rfl, OwnZ.none_ _ _, Below.refl _ _⟩
  case round =>
    obtain ⟨i, m, d, B, hi, hgg, rfl, rfl, hmd, hmi, HM, HO, HB⟩ := hrel
    by_cases hlt : i < n
    · have hi' : i < es.length := by rw [HN.out]; exact hlt
      have w5 : (i : Int) < (n : Int) := by omega
      obtain ⟨g, off, rfl⟩ := ent_addr HR.out (by rw [HN.out]; omega)
      go_wp2_with fail
      obtain ⟨wo, rfl⟩ : ∃ x : World, x = wr := ⟨_, rfl⟩
      go_loopg [5, 6] n (fun g2 s5 s6 wy => ∃ (j : Nat) (t : Bool), j + g2 = n ∧ s6 = .int .i64 (j : Int) ∧ s5 = .bool t ∧ Hid (TellB t (∀ a, a < j → q a i = false)) ∧ Hid (Below wo.heap.size wo wy))
      case atStart => exact ⟨0, true, by omega, rfl, rfl, ⟨fun _ a ha => by omega, fun _ => rfl⟩, Below.refl _ _⟩
      case round =>
        obtain ⟨j, t, hjg, rfl, rfl, HL, HG⟩ := hrel
        have HB2 := Lib.hid (below_next HB.out (Nat.le_refl _) HG.out)
        cases gk with
        | zero =>
          obtain rfl : j = n := by omega
          have HO2 := Lib.hid (OwnZ.below HO.out HG.out)
          cases t with
          | false =>
            have hno : Po.isTop q j i = false := by
              cases h : Po.isTop q j i with
              | false => rfl
              | true => have := HL.out.2 fun a ha => Po.top_iff.1 h a ha; cases this
            have hT := Po.topsTo_no (id := id) hno
            have HO3 : Hid (OwnZ layI wr w.heap.size (.slice B m d) (Po.topsTo q id j (i + 1))) := by rw [hT]; exact HO2.out
            have HM3 : Hid ((Po.topsTo q id j (i + 1)).length = m) := by rw [hT]; exact HM.out
            clear hT hno
            go_wp2_with fail
            go_roundg (j - (i + 1))
            case measure => omega
            case rel => exact ⟨i + 1, m, d, B, by omega, Nat.le_refl _, by go_num, rfl, hmd, by omega, HM3, HO3, HB2⟩
          | true =>
            have HT : Hid (Po.topsTo q id j (i + 1) = Po.topsTo q id j i ++ [id i]) := Po.topsTo_yes (Po.top_yes (HL.out.1 rfl))
            have hid := ent_id HN.out hlt (HR.out.below HB2.out)
            rw [HID.out] at hid
            have c0 := hid.2
            have hg := hid.1
            have hrx := rdz_one layI wr (id i) 3 #[.int .i64 (id i)] rfl
            have hbq : Below wr.heap.size wr (wr.alloc (.cells #[.int .i64 (id i)] 3)) := (gr1 wr _).below
            have ho3 := OwnZ.below HO2.out hbq
            have hs3 : w.heap.size ≤ (wr.alloc (.cells #[.int .i64 (id i)] 3)).heap.size := Nat.le_trans HB2.out.size hbq.size
            have hb3 := below_next HB2.out (Nat.le_refl _) hbq
            have hlm := HM.out
            clear hid
            go_wp2_with (at_builtin; refine wpList_append_z layI (by rfl) (.tmp 33) (.tmp 39) 30 underI rfl w.heap.size _ (Po.topsTo q id j i) (by rfl) ho3 _ [id i] 1 1 (by rfl) hrx rfl (by rw [maxLen_num, hlm]; omega) (by simp only [layI]; rw [hlm]; omega) hs3 ?_; intro v2 y2 o2 b2 _ _; rw [← HT.out] at o2; have hl2 : (Po.topsTo q id j (i + 1)).length = m + 1 := (by rw [HT.out, List.length_append, hlm]; rfl); obtain ⟨B2, d2, hv2, hd2, _⟩ := OwnZ.form o2 hl2; subst hv2; have HB3 := Lib.hid (b2 w hb3); have HO3 := Lib.hid o2; have HM3 := Lib.hid hl2; clear b2 o2 hl2 hb3 ho3 hrx hbq hs3 hlm c0 hg)
            go_roundg (j - (i + 1))
            case measure => omega
            case rel => exact ⟨i + 1, m + 1, d2, B2, by omega, Nat.le_refl _, by go_num, rfl, hd2, by omega, HM3, HO3, HB3⟩
        | succ gk =>
          have hj : j < n := by omega
          have w6 : (j : Int) < (n : Int) := by omega
          cases t with
          | false =>
            have HL2 : Hid (TellB false (∀ a, a < j + 1 → q a i = false)) := ⟨fun h => (by cases h), fun h => HL.out.2 fun a ha => h a (by omega)⟩
            go_wp2_with fail
            (refine qb_region mixedT (by kernel_rfl) ?_; (repeat (refine hq_step (fun K hK => ?_); go_simp; first | (refine hK _ ?_; clear hK K) | (apply Exists.intro; refine ⟨fun _ => ?_, hK _ ?_⟩; (fail); clear hK K))); refine hq_nil ?_; intro _ hw'; obtain ⟨⟨nq, osq⟩, hw''⟩ := hw'; subst hw'')
            have HG2 := Lib.hid (below_next HG.out (Nat.le_refl _) (below_gx wr nq osq))
            go_wp2_with fail
            go_roundg gk
            case measure => omega
            case rel => exact ⟨j + 1, false, by omega, by go_num, rfl, HL2, HG2⟩
          | true =>
            have hj' : j < es.length := by rw [HN.out]; exact hj
            obtain ⟨g', off', e0, _, c0, c1, c2, hf⟩ := RdEn.at3 (HR.out.below HB2.out) hj'
            injection e0 with e0
            injection e0 with e1 e2
            subst e1; subst e2
            obtain ⟨g', off', e0, _, d0, d1, d2, hk2⟩ := RdEn.at3 (HR.out.below HB2.out) hi'
            injection e0 with e0
            injection e0 with e1 e2
            subst e1; subst e2
            have hsy := HF.out _ (List.getElem_mem hj')
            have hsx := HF.out _ (List.getElem_mem hi')
            obtain ⟨yy, hyy⟩ : ∃ y, es[j] = y := ⟨_, rfl⟩
            have HYY := Lib.hid hyy
            obtain ⟨xx, hxx⟩ : ∃ y, es[i] = y := ⟨_, rfl⟩
            have HXX := Lib.hid hxx
            rw [hyy] at c0 c1 c2 hf hsy
            rw [hxx] at d0 d1 d2 hk2 hsx
            clear hxx hyy
            obtain ⟨yi, yr, yA, yn, yc, yf⟩ := yy
            obtain ⟨xi, xr, xA, xn, xc, xf⟩ := xx
            obtain ⟨hf1, _, hf3⟩ := hf
            obtain ⟨hk1, _, hk3⟩ := hk2
            dsimp only at c0 c1 c2 d0 d1 d2 hsx hsy hf1 hf3 hk1 hk3
            have hqj := HQ.out.at_ HN.out hj hlt (fun _ => HYY.out) (fun _ => HXX.out)
            obtain ⟨qj, hqv⟩ : ∃ b, q j i = b := ⟨_, rfl⟩
            have HQV := Lib.hid hqv
            rw [hqv] at hqj
            have C1 := Lib.hid (fun nn os => rabove_at ⟨yi, yr, yA, yn, yc, yf⟩ ⟨xi, xr, xA, xn, xc, xf⟩ hf1 hsy.1 hsy.2 hk1 hsx.1 hsx.2 (gx wr nn os) (RdK.below hf3 (below_gx wr nn os)) (RdK.below hk3 (below_gx wr nn os)) qj hqj)
            have z2 := gx_cell c0
            have z3 := gx_cell c1
            have z4 := gx_cell c2
            have z5 := gx_cell d0
            have z6 := gx_cell d1
            have z7 := gx_cell d2
            have HL2 : Hid (TellB (!qj) (∀ a, a < j + 1 → q a i = false)) := by
              have h0 := HL.out.1 rfl
              show TellB _ _
              unfold TellB
              rw [Bool.not_eq_true', ← HQV.out]
              constructor
              · intro h a ha
                by_cases e : a = j
                · rw [e]; exact h
                · exact h0 a (by omega)
              · intro h; exact h j (by omega)
            clear hf1 hf3 hk1 hk3 hsy hsx hqj hqv c0 c1 c2 d0 d1 d2
            go_wp2_with fail
            (refine qb_region mixedT (by kernel_rfl) ?_; (repeat (refine hq_step (fun K hK => ?_); go_simp; first | (refine hK _ ?_; clear hK K) | (apply Exists.intro; refine ⟨fun _ => ?_, hK _ ?_⟩; (go_at_call 13; with_reducible exact calls_gx (C1.out _ _)); clear hK K))); refine hq_nil ?_; intro _ hw'; obtain ⟨⟨nq, osq⟩, hw''⟩ := hw'; subst hw'')
            have HG3 := Lib.hid (below_next HG.out (Nat.le_refl _) (below_gx wr nq osq))
            clear z2 z3 z4 z5 z6 z7 C1
            go_wp2_with fail
            go_roundg gk
            case measure => omega
            case rel => exact ⟨j + 1, !qj, by omega, by go_num, rfl, HL2, HG3⟩
    · obtain rfl : i = n := by omega
      go_wp2_with fail
      go_ret
      exact ⟨B, m, d, rfl, HM.out, hmd, rdz_own HO.out, HB.out⟩
end Go.Proofs.Ytckabmlilbkmbaa
namespace Go.Proofs.Ytckabmlilbkmbaa
open Go.RowKit Go.ChangeShapes Go.WideShapes Go.Deep Go.Sort Spans Tb
theorem own_otherZ {α β : Type} {L : LayZ α} {M : LayZ β} (hLM : L.T ≠ M.T) {w w' : World} {base base' : Nat} {v u : Value} {es : List α} {fs : List β} (h : OwnZ M w base u fs) (hv : OwnZ L w base' v es) (hg : w.grownBy w' v.ownBlock) : OwnZ M w' base u fs := by
  refine ⟨h.1, ?_⟩
  rcases h.2 with h2 | ⟨g, cap, cur, hu, hbg, hh, r⟩
  · exact .inl h2
  · refine .inr ⟨g, cap, cur, hu, hbg, (hg.block g (Array.getElem?_eq_some_iff.1 hh).1 (fun e => ?_)).trans hh, r⟩
    rcases hv.2 with ⟨rfl, _⟩ | ⟨g', cap', cur', rfl, _, hh', _⟩
    · simp [Value.ownBlock] at e
    · simp [Value.ownBlock] at e
      subst e
      rw [hh] at hh'
      injection hh' with h1
      injection h1 with _ h2
      exact hLM h2.symm
/-- The first rows of the table, each its own. -/
def Rws (w : World) (base n i : Nat) (q : Nat → Nat → Bool) (rows : List Sl) : Prop := rows.length = i ∧ ∀ j (h : j < rows.length), rows[j].n = n ∧ OwnZ layB w base (.slice rows[j].A rows[j].n rows[j].c) ((List.range n).map (q j))
theorem Rws.below {w w' : World} {base n i : Nat} {q : Nat → Nat → Bool} {rows : List Sl} (h : Rws w base n i q rows) (hb : Below w.heap.size w w') : Rws w' base n i q rows := ⟨h.1, fun j hj => ⟨(h.2 j hj).1, OwnZ.below (h.2 j hj).2 hb⟩⟩
theorem Rws.rd {w : World} {base base' n : Nat} {q : Nat → Nat → Bool} {rows : List Sl} {A : Option Addr} {c : Nat} (h : Rws w base n n q rows) (ho : OwnZ laySl w base' (.slice A n c) rows) : RdM w A n q :=
  ⟨rows, h.1, rdz_own ho, fun j hj => ⟨(h.2 j hj).1, rdz_own (h.2 j hj).2⟩⟩
theorem Rws.snoc {w w' : World} {base base' n i : Nat} {q : Nat → Nat → Bool} {rows : List Sl} {v : Value} (h : Rws w base n i q rows) (ho : OwnZ laySl w base' v rows) (hg : w.grownBy w' v.ownBlock) {A : Option Addr} {c : Nat} (hr : OwnZ layB w base (.slice A n c) ((List.range n).map (q i))) : Rws w' base n (i + 1) q (rows ++ [⟨A, n, c⟩]) := by
  refine ⟨by rw [List.length_append, h.1]; rfl, fun j hj => ?_⟩
  by_cases hji : j < rows.length
  · rw [List.getElem_append_left hji]
    exact ⟨(h.2 j hji).1, own_otherZ (L := laySl) (M := layB) (by decide) (h.2 j hji).2 ho hg⟩
  · have e : j = rows.length := by rw [List.length_append] at hj; simp at hj; omega
    subst e
    rw [List.getElem_append_right (Nat.le_refl _)]
    simp only [Nat.sub_self, List.getElem_cons_zero]
    rw [h.1]
    exact ⟨trivial, own_otherZ (L := laySl) (M := layB) (by decide) hr ho hg⟩
set_option maxRecDepth 100000 in
set_option maxHeartbeats 4000000 in
theorem redges_at (A : Option Addr) (es : List Ex) (n c : Nat) (hn : es.length = n) (hm : n ≤ 1000) (hf : EFew es) (w : World) (hr : RdEn w A es) (q : Nat → Nat → Bool) (hq : Abvs es n q) :
    Calls Try.prog 19 #[.slice A n c] w (GivesN w (Po.edgesL q (idAt es) n)) := by
  have HN := Lib.hid hn
  have HF := Lib.hid hf
  have HR := Lib.hid hr
  have HQ := Lib.hid hq
  obtain ⟨id, hid⟩ : ∃ id, idAt es = id := ⟨_, rfl⟩
  have HID := Lib.hid hid
  rw [hid]
  clear hn hf hr hq hid
  go_enter Try.func19, Try.ntmps19
  go_wp2_with fail
  go_loopg [4, 5] n (fun gg s4 s5 wr => ∃ (i d : Nat) (B : Option Addr) (rows : List Sl), i ≤ n ∧ n - i ≤ gg ∧ s5 = .int .i64 (i : Int) ∧ s4 = .slice B i d ∧ i ≤ d ∧ Hid (OwnZ laySl wr w.heap.size (.slice B i d) rows) ∧ Hid (Rws wr w.heap.size n i q rows) ∧ Hid (Below w.heap.size w wr))
  case atStart => exact ⟨0, 0, none, [], Nat.zero_le _, by omega, rfl, rfl, Nat.le_refl _, OwnZ.none_ _ _, ⟨rfl, fun j hj => by simp at hj⟩, Below.refl _ _⟩
  case round =>
    obtain ⟨i, d, B, rows, hi, hgg, rfl, rfl, hid, HO, HW, HB⟩ := hrel
    by_cases hlt : i < n
    · have hi' : i < es.length := by rw [HN.out]; exact hlt
      have w5 : (i : Int) < (n : Int) := by omega
      obtain ⟨g, off, rfl⟩ := ent_addr HR.out (by rw [HN.out]; omega)
      go_wp2_with fail
      obtain ⟨wo, rfl⟩ : ∃ x : World, x = wr := ⟨_, rfl⟩
      go_loopg [6, 7] n (fun g2 s6 s7 wy => ∃ (k d : Nat) (C : Option Addr), k ≤ n ∧ n - k ≤ g2 ∧ s7 = .int .i64 (k : Int) ∧ s6 = .slice C k d ∧ k ≤ d ∧ Hid (OwnZ layB wy wo.heap.size (.slice C k d) ((List.range k).map (q i))) ∧ Hid (Below wo.heap.size wo wy))
      case atStart => exact ⟨0, 0, none, Nat.zero_le _, by omega, rfl, rfl, Nat.le_refl _, OwnZ.none_ _ _, Below.refl _ _⟩
      case round =>
        obtain ⟨k, d2, C, hk, hgg2, rfl, rfl, hkd, HC, HG⟩ := hrel
        have HB2 := Lib.hid (below_next HB.out (Nat.le_refl _) HG.out)
        by_cases hkn : k < n
        · have w6 : (k : Int) < (n : Int) := by omega
          have hk' : k < es.length := by rw [HN.out]; exact hkn
          obtain ⟨g', off', e0, hgs, c0, c1, c2, hf⟩ := RdEn.at3 HR.out hi'
          injection e0 with e0
          injection e0 with e1 e2
          subst e1; subst e2
          obtain ⟨g', off', e0, _, d0, d1, d3, hk2⟩ := RdEn.at3 HR.out hk'
          injection e0 with e0
          injection e0 with e1 e2
          subst e1; subst e2
          have hsx := HF.out _ (List.getElem_mem hi')
          have hsy := HF.out _ (List.getElem_mem hk')
          obtain ⟨xx, hxx⟩ : ∃ y, es[i] = y := ⟨_, rfl⟩
          have HXX := Lib.hid hxx
          obtain ⟨yy, hyy⟩ : ∃ y, es[k] = y := ⟨_, rfl⟩
          have HYY := Lib.hid hyy
          rw [hxx] at c0 c1 c2 hf hsx
          rw [hyy] at d0 d1 d3 hk2 hsy
          clear hxx hyy
          obtain ⟨xi, xr, xA, xn, xc, xf⟩ := xx
          obtain ⟨yi, yr, yA, yn, yc, yf⟩ := yy
          obtain ⟨hf1, _, hf3⟩ := hf
          obtain ⟨hk1, _, hk3⟩ := hk2
          dsimp only at c0 c1 c2 d0 d1 d3 hsx hsy hf1 hf3 hk1 hk3
          have hqj := HQ.out.at_ HN.out hlt hkn (fun _ => HXX.out) (fun _ => HYY.out)
          obtain ⟨qj, hqv⟩ : ∃ b, q i k = b := ⟨_, rfl⟩
          have HQV := Lib.hid hqv
          rw [hqv] at hqj
          have HQJ := Lib.hid hqj
          have HXL : Hid (xf.length = xn) := hf1
          have HYL : Hid (yf.length = yn) := hk1
          have HXP := Lib.hid hsx
          have HYP := Lib.hid hsy
          have HXR := Lib.hid hf3
          have HYR := Lib.hid hk3
          have HE : Hid (∀ w', Below w.heap.size w w' → w'.cell? ⟨g, off + i * 3, none⟩ = some (.int .i64 xi) ∧ w'.cell? ⟨g, off + i * 3 + 1, none⟩ = some (.int .i64 xr) ∧ w'.cell? ⟨g, off + i * 3 + 2, none⟩ = some (.slice xA xn xc) ∧ w'.cell? ⟨g, off + k * 3, none⟩ = some (.int .i64 yi) ∧ w'.cell? ⟨g, off + k * 3 + 1, none⟩ = some (.int .i64 yr) ∧ w'.cell? ⟨g, off + k * 3 + 2, none⟩ = some (.slice yA yn yc)) := fun w' hb =>
            ⟨(hb.cell (p := ⟨g, off + i * 3, none⟩) hgs).trans c0, (hb.cell (p := ⟨g, off + i * 3 + 1, none⟩) hgs).trans c1, (hb.cell (p := ⟨g, off + i * 3 + 2, none⟩) hgs).trans c2, (hb.cell (p := ⟨g, off + k * 3, none⟩) hgs).trans d0, (hb.cell (p := ⟨g, off + k * 3 + 1, none⟩) hgs).trans d1, (hb.cell (p := ⟨g, off + k * 3 + 2, none⟩) hgs).trans d3⟩
          have hS0 : Below w.heap.size w wr.drew := HB2.out.drew
          have HG2 : Hid (Below wo.heap.size wo wr.drew) := HG.out.drew
          have HC2 : Hid (OwnZ layB wr.drew wo.heap.size (.slice C k d2) ((List.range k).map (q i))) := HC.out
          clear hf1 hf3 hk1 hk3 hsy hsx hqj hqv c0 c1 c2 d0 d1 d3 hgs HB2 HG HC
          go_wp2_with fail
          refine wp_region_held_drew (S := fun w' => Below w.heap.size w w') (by kernel_rfl) hS0 (fun _ => ?_)
          refine wpAnyH_yes (i := 0) (d := 25) (v := ?_) rfl rfl (by kernel_rfl) (by kernel_rfl) (by kernel_rfl) (fun _ _ _ h => h) (by rfl) ?_ hS0 ?_
          rotate_left
          · intro w' hSw; skip; go_simp <;> with_reducible rfl
          simp only [Act.put, List.setIfInBounds_toArray, List.set_cons_zero, List.set_cons_succ]
          refine wpAnyH_yes (i := 1) (d := 26) (v := ?_) rfl rfl (by kernel_rfl) (by kernel_rfl) (by kernel_rfl) (fun _ _ _ h => h) (by rfl) ?_ hS0 ?_
          rotate_left
          · intro w' hSw; skip; go_simp <;> with_reducible rfl
          simp only [Act.put, List.setIfInBounds_toArray, List.set_cons_zero, List.set_cons_succ]
          refine wpAnyH_yes (i := 2) (d := 27) (v := ?_) rfl rfl (by kernel_rfl) (by kernel_rfl) (by kernel_rfl) (fun _ _ _ h => h) (by rfl) ?_ hS0 ?_
          rotate_left
          · intro w' hSw; skip; go_simp <;> with_reducible rfl
          simp only [Act.put, List.setIfInBounds_toArray, List.set_cons_zero, List.set_cons_succ]
          refine wpAnyH_yes (i := 3) (d := 28) (v := ?_) rfl rfl (by kernel_rfl) (by kernel_rfl) (by kernel_rfl) (fun _ _ _ h => h) (by rfl) ?_ hS0 ?_
          rotate_left
          · intro w' hSw; skip; go_simp <;> with_reducible rfl
          simp only [Act.put, List.setIfInBounds_toArray, List.set_cons_zero, List.set_cons_succ]
          refine wpAnyH_yes (i := 4) (d := 29) (v := ?_) rfl rfl (by kernel_rfl) (by kernel_rfl) (by kernel_rfl) (fun _ _ _ h => h) (by rfl) ?_ hS0 ?_
          rotate_left
          · intro w' hSw; obtain ⟨e0, e1, e2, e3, e4, e5⟩ := HE.out _ hSw; go_simp <;> with_reducible rfl
          simp only [Act.put, List.setIfInBounds_toArray, List.set_cons_zero, List.set_cons_succ]
          refine wpAnyH_yes (i := 5) (d := 30) (v := ?_) rfl rfl (by kernel_rfl) (by kernel_rfl) (by kernel_rfl) (fun _ _ _ h => h) (by rfl) ?_ hS0 ?_
          rotate_left
          · intro w' hSw; skip; go_simp <;> with_reducible rfl
          simp only [Act.put, List.setIfInBounds_toArray, List.set_cons_zero, List.set_cons_succ]
          refine wpAnyH_yes (i := 6) (d := 31) (v := ?_) rfl rfl (by kernel_rfl) (by kernel_rfl) (by kernel_rfl) (fun _ _ _ h => h) (by rfl) ?_ hS0 ?_
          rotate_left
          · intro w' hSw; skip; go_simp <;> with_reducible rfl
          simp only [Act.put, List.setIfInBounds_toArray, List.set_cons_zero, List.set_cons_succ]
          refine wpAnyH_yes (i := 7) (d := 32) (v := ?_) rfl rfl (by kernel_rfl) (by kernel_rfl) (by kernel_rfl) (fun _ _ _ h => h) (by rfl) ?_ hS0 ?_
          rotate_left
          · intro w' hSw; skip; go_simp <;> with_reducible rfl
          simp only [Act.put, List.setIfInBounds_toArray, List.set_cons_zero, List.set_cons_succ]
          refine wpAnyH_yes (i := 8) (d := 33) (v := ?_) rfl rfl (by kernel_rfl) (by kernel_rfl) (by kernel_rfl) (fun _ _ _ h => h) (by rfl) ?_ hS0 ?_
          rotate_left
          · intro w' hSw; obtain ⟨e0, e1, e2, e3, e4, e5⟩ := HE.out _ hSw; go_simp <;> with_reducible rfl
          simp only [Act.put, List.setIfInBounds_toArray, List.set_cons_zero, List.set_cons_succ]
          generalize wr.drew = wD at *
          refine wpAnyH_one (i := 9) (by kernel_rfl) rfl (by rfl) (fun K hK => ?_)
          go_simp
          have hrx : RdQ wD xA xf := RdK.below HXR.out hS0
          have hry : RdQ wD yA yf := RdK.below HYR.out hS0
          with_reducible refine (rabove_at ⟨xi, xr, xA, xn, xc, xf⟩ ⟨yi, yr, yA, yn, yc, yf⟩ HXL.out HXP.out.1 HXP.out.2 HYL.out HYP.out.1 HYP.out.2 wD hrx hry qj HQJ.out).mono ?_
          rintro e w7 ⟨rfl, hb7⟩
          have hS1 := below_next hS0 (Nat.le_refl _) hb7
          have HG3 := Lib.hid (below_next HG2.out (Nat.le_refl _) hb7)
          have HC3 := Lib.hid (OwnZ.below HC2.out hb7)
          clear hb7 hrx hry HG2 HC2 hS0
          go_wp2_with fail
          refine hK.out _ _ hS1 ?_
          clear hK
          refine wpAnyH_one (i := 10) (by kernel_rfl) rfl (by rfl) (fun K hK => ?_)
          go_simp
          have hbq : Below w7.heap.size w7 (w7.alloc (.cells #[.bool qj] 4)) := (gr1 w7 _).below
          have hS2 := below_next hS1 (Nat.le_refl _) hbq
          have hG4 := below_next HG3.out (Nat.le_refl _) hbq
          have hrx := rdz_one layB w7 qj 4 #[.bool qj] rfl
          have ho3 := OwnZ.below HC3.out hbq
          have hs3 : wo.heap.size ≤ (w7.alloc (.cells #[.bool qj] 4)).heap.size := hG4.size
          have hlm : ((List.range k).map (q i)).length = k := by simp
          refine hK.out _ _ hS2 ?_
          clear hK
          refine wpAnyH_one (i := 11) (by kernel_rfl) rfl (by rfl) (fun K hK => ?_)
          refine op_append_z layB (.tmp 25) (.tmp 35) 51 underB (by rfl) wo.heap.size _ ((List.range k).map (q i)) (by rfl) ho3 _ [qj] 1 1 (by rfl) hrx rfl (by rw [maxLen_num, hlm]; omega) (by simp only [layB]; rw [hlm]; omega) hs3 ?_
          intro v2 y2 o2 b2
          have hsn : (List.range (k + 1)).map (q i) = (List.range k).map (q i) ++ [qj] := by rw [List.range_succ, List.map_append, ← HQV.out]; rfl
          rw [← hsn] at o2
          have hl2 : ((List.range (k + 1)).map (q i)).length = k + 1 := by simp
          obtain ⟨C2, d4, hv2, hd2, _⟩ := OwnZ.form o2 hl2
          subst hv2
          have HG5 := Lib.hid (b2 wo hG4)
          have HS5 := Lib.hid (below_next HB.out (Nat.le_refl _) HG5.out)
          have HC5 := Lib.hid o2
          refine hK.out _ _ HS5.out ?_
          clear hK b2 o2 hl2 hsn hS1 hS2 hG4 hrx ho3 hs3 hlm hbq
          simp only [Act.put, List.setIfInBounds_toArray, List.set_cons_zero, List.set_cons_succ]
          refine wpAnyH_yes (i := 12) (d := 6) (v := ?_) rfl rfl (by kernel_rfl) (by kernel_rfl) (by kernel_rfl) (fun _ _ _ h => h) (by rfl) ?_ HS5.out ?_
          rotate_left
          · intro w' hSw; skip; go_simp <;> with_reducible rfl
          simp only [Act.put, List.setIfInBounds_toArray, List.set_cons_zero, List.set_cons_succ]
          refine wpAnyH_done (by kernel_rfl) ?_ _
          go_wp2_with fail
          go_roundg (n - (k + 1))
          case measure => omega
          case rel => exact ⟨k + 1, d4, C2, by omega, Nat.le_refl _, by go_num, rfl, hd2, HC5, HG5⟩
        · obtain rfl : k = n := by omega
          have HO2 := Lib.hid (OwnZ.below HO.out HG.out)
          have HW2 := Lib.hid (HW.out.below HG.out)
          have hrx := rdz_one laySl wr ⟨C, k, d2⟩ 51 #[.slice C k d2] rfl
          have hbq : Below wr.heap.size wr (wr.alloc (.cells #[.slice C k d2] 51)) := (gr1 wr _).below
          have ho3 := OwnZ.below HO2.out hbq
          have hw3 := HW2.out.below hbq
          have hc3 := (OwnZ.below HC.out hbq).less HB.out.size
          have hs3 : w.heap.size ≤ (wr.alloc (.cells #[.slice C k d2] 51)).heap.size := Nat.le_trans HB2.out.size hbq.size
          have hb3 := below_next HB2.out (Nat.le_refl _) hbq
          have hlm : rows.length = i := HW.out.1
          go_wp2_with (at_builtin; refine wpList_append_z laySl (by rfl) (.tmp 37) (.tmp 39) 49 underSl rfl w.heap.size _ rows (by rfl) ho3 _ [⟨C, k, d2⟩] 1 1 (by rfl) hrx rfl (by rw [maxLen_num, hlm]; omega) (by simp only [laySl]; rw [hlm]; omega) hs3 ?_; intro v2 y2 o2 b2 g2 _; have hW9 := hw3.snoc ho3 g2 hc3; have hl2 : (rows ++ [(⟨C, k, d2⟩ : Sl)]).length = i + 1 := (by rw [List.length_append, hlm]; rfl); obtain ⟨B2, d4, hv2, hd2, _⟩ := OwnZ.form o2 hl2; subst hv2; have HB3 := Lib.hid (b2 w hb3); have HO3 := Lib.hid o2; have HW3 := Lib.hid hW9; clear b2 o2 hl2 hb3 ho3 hrx hbq hs3 hlm hw3 hc3 hW9 g2)
          go_roundg (k - (i + 1))
          case measure => omega
          case rel => exact ⟨i + 1, d4, B2, _, by omega, Nat.le_refl _, by go_num, rfl, hd2, HO3, HW3, HB3⟩
    · obtain rfl : n = i := by omega
      obtain ⟨w1, rfl⟩ : ∃ x : World, x = wr := ⟨_, rfl⟩
      have HBW := HB
      have HM1 := Lib.hid (HW.out.rd HO.out)
      have HR1 := Lib.hid (HR.out.below HB.out)
      clear HB HW HO HR HF HQ
      go_wp2_with fail
      go_loopg [8, 9] n (fun gg s8 s9 wr => ∃ (i m d : Nat) (B : Option Addr), i ≤ n ∧ n - i ≤ gg ∧ s9 = .int .i64 (i : Int) ∧ s8 = .slice B m d ∧ m ≤ d ∧ Hid ((Po.upTo q id n i 0).length = m) ∧ Hid (OwnZ layN wr w1.heap.size (.slice B m d) (Po.upTo q id n i 0)) ∧ Hid (Below w1.heap.size w1 wr))
      case atStart => exact ⟨0, 0, 0, _, Nat.zero_le _, by omega, rfl, rfl, Nat.le_refl _, rfl, OwnZ.none_ _ _, Below.refl _ _⟩
      case round =>
        obtain ⟨i, m, d, B, hi, hgg, rfl, rfl, hmd, HM, HO, HB⟩ := hrel
        by_cases hlt : i < n
        · have w5 : (i : Int) < (n : Int) := by omega
          go_wp2_with fail
          obtain ⟨wo, rfl⟩ : ∃ x : World, x = wr := ⟨_, rfl⟩
          go_loopg [8, 10] n (fun g2 s8 s10 wy => ∃ (k m d : Nat) (B : Option Addr), k ≤ n ∧ n - k ≤ g2 ∧ s10 = .int .i64 (k : Int) ∧ s8 = .slice B m d ∧ m ≤ d ∧ Hid ((Po.upTo q id n i k).length = m) ∧ Hid (OwnZ layN wy w1.heap.size (.slice B m d) (Po.upTo q id n i k)) ∧ Hid (Below w1.heap.size w1 wy))
          case atStart => exact ⟨0, m, d, B, Nat.zero_le _, by omega, rfl, rfl, hmd, HM, HO, HB⟩
          case round =>
            clear HM HO HB hmd
            obtain ⟨k, m, d, B, hk, hgg2, rfl, rfl, hmd, HM, HO, HB⟩ := hrel
            by_cases hkn : k < n
            · have w6 : (k : Int) < (n : Int) := by omega
              obtain ⟨gm, om, rfl⟩ := HM1.out.addr (by omega)
              obtain ⟨hgm, g2, o2, c2, r0, hg2, r1⟩ := RdM.get (HM1.out.below HB.out) hlt hkn
              obtain ⟨qk, hqk⟩ : ∃ b, q i k = b := ⟨_, rfl⟩
              rw [hqk] at r1
              have HQK := Lib.hid hqk
              clear hqk
              go_wp2_with fail
              clear r0 r1 hgm hg2
              obtain ⟨wp, rfl⟩ : ∃ x : World, x = wr := ⟨_, rfl⟩
              go_loopg [11, 12] n (fun g3 s11 s12 wz => ∃ (b : Nat) (t : Bool), b + g3 = n ∧ s12 = .int .i64 (b : Int) ∧ s11 = .bool t ∧ wp = wz ∧ Hid (TellB t (q i k = true ∧ ∀ j, j < b → (q i j && q j k) = false)))
              case atStart => exact ⟨0, qk, by omega, rfl, rfl, rfl, by show TellB _ _; unfold TellB; rw [HQK.out]; exact ⟨fun h => ⟨h, fun j hj => by omega⟩, fun h => h.1⟩⟩
              case round =>
                obtain ⟨b, t, hbg, rfl, rfl, rfl, HL⟩ := hrel
                cases gk with
                | zero =>
                  obtain rfl : b = n := by omega
                  cases t with
                  | false =>
                    have hno : Po.isEdge q b i k = false := by
                      cases h : Po.isEdge q b i k with
                      | false => rfl
                      | true =>
                        obtain ⟨h1, h2⟩ := Po.edge_iff.1 h
                        have := HL.out.2 ⟨h1, fun j hj => by have := h2 j hj; rwa [← Bool.and_eq_true, Bool.not_eq_true] at this⟩
                        cases this
                    have hU : Po.upTo q id b i (k + 1) = Po.upTo q id b i k := Po.upTo_no hno
                    have HM3 : Hid ((Po.upTo q id b i (k + 1)).length = m) := by rw [hU]; exact HM.out
                    have HO3 : Hid (OwnZ layN wp w1.heap.size (.slice B m d) (Po.upTo q id b i (k + 1))) := by rw [hU]; exact HO.out
                    clear hU hno
                    go_wp2_with fail
                    go_roundg (b - (k + 1))
                    case measure => omega
                    case rel => exact ⟨k + 1, m, d, B, by omega, Nat.le_refl _, by go_num, rfl, hmd, HM3, HO3, HB⟩
                  | true =>
                    have hyes := HL.out.1 rfl
                    have hU : Po.upTo q id b i (k + 1) = Po.upTo q id b i k ++ [(id i, id k)] := Po.upTo_yes (Po.edge_yes hyes.1 hyes.2)
                    have HU := Lib.hid hU
                    obtain ⟨g, off, rfl⟩ := ents_addr HR1.out (by rw [HN.out]; omega)
                    have he1 := EFew.ids HN.out hlt HR1.out
                    have he2 := EFew.ids HN.out hkn HR1.out
                    rw [HID.out] at he1 he2
                    have HE : Hid (∀ w', Below w1.heap.size w1 w' → w'.cell? ⟨g, off + i * 3, none⟩ = some (.int .i64 (id i)) ∧ w'.cell? ⟨g, off + k * 3, none⟩ = some (.int .i64 (id k))) := fun w' hb =>
                      ⟨(hb.cell (p := ⟨g, off + i * 3, none⟩) he1.1).trans he1.2, (hb.cell (p := ⟨g, off + k * 3, none⟩) he1.1).trans he2.2⟩
                    clear hU he1 he2 hyes HL
                    have hS0 : Below w1.heap.size w1 wp.drew := HB.out.drew
                    have HO3 : Hid (OwnZ layN wp.drew w1.heap.size (.slice B m d) (Po.upTo q id b i k)) := HO.out
                    clear HO HB
                    go_wp2_with fail
                    refine wp_region_held_drew (S := fun w' => Below w1.heap.size w1 w') (by kernel_rfl) hS0 (fun _ => ?_)
                    refine wpAnyH_yes (i := 0) (d := 84) (v := ?_) rfl rfl (by kernel_rfl) (by kernel_rfl) (by kernel_rfl) (fun _ _ _ h => h) (by rfl) ?_ hS0 ?_
                    rotate_left
                    · intro w' hSw; skip; go_simp <;> with_reducible rfl
                    simp only [Act.put, List.setIfInBounds_toArray, List.set_cons_zero, List.set_cons_succ]
                    refine wpAnyH_yes (i := 1) (d := 85) (v := ?_) rfl rfl (by kernel_rfl) (by kernel_rfl) (by kernel_rfl) (fun _ _ _ h => h) (by rfl) ?_ hS0 ?_
                    rotate_left
                    · intro w' hSw; skip; go_simp <;> with_reducible rfl
                    simp only [Act.put, List.setIfInBounds_toArray, List.set_cons_zero, List.set_cons_succ]
                    refine wpAnyH_yes (i := 2) (d := 86) (v := ?_) rfl rfl (by kernel_rfl) (by kernel_rfl) (by kernel_rfl) (fun _ _ _ h => h) (by rfl) ?_ hS0 ?_
                    rotate_left
                    · intro w' hSw; skip; go_simp <;> with_reducible rfl
                    simp only [Act.put, List.setIfInBounds_toArray, List.set_cons_zero, List.set_cons_succ]
                    refine wpAnyH_yes (i := 3) (d := 87) (v := ?_) rfl rfl (by kernel_rfl) (by kernel_rfl) (by kernel_rfl) (fun _ _ _ h => h) (by rfl) ?_ hS0 ?_
                    rotate_left
                    · intro w' hSw; skip; go_simp <;> with_reducible rfl
                    simp only [Act.put, List.setIfInBounds_toArray, List.set_cons_zero, List.set_cons_succ]
                    refine wpAnyH_yes (i := 4) (d := 88) (v := ?_) rfl rfl (by kernel_rfl) (by kernel_rfl) (by kernel_rfl) (fun _ _ _ h => h) (by rfl) ?_ hS0 ?_
                    rotate_left
                    · intro w' hSw; skip; go_simp <;> with_reducible rfl
                    simp only [Act.put, List.setIfInBounds_toArray, List.set_cons_zero, List.set_cons_succ]
                    refine wpAnyH_yes (i := 5) (d := 89) (v := ?_) rfl rfl (by kernel_rfl) (by kernel_rfl) (by kernel_rfl) (fun _ _ _ h => h) (by rfl) ?_ hS0 ?_
                    rotate_left
                    · intro w' hSw; obtain ⟨e0, e1⟩ := HE.out _ hSw; go_simp <;> with_reducible rfl
                    simp only [Act.put, List.setIfInBounds_toArray, List.set_cons_zero, List.set_cons_succ]
                    refine wpAnyH_yes (i := 6) (d := 90) (v := ?_) rfl rfl (by kernel_rfl) (by kernel_rfl) (by kernel_rfl) (fun _ _ _ h => h) (by rfl) ?_ hS0 ?_
                    rotate_left
                    · intro w' hSw; skip; go_simp <;> with_reducible rfl
                    simp only [Act.put, List.setIfInBounds_toArray, List.set_cons_zero, List.set_cons_succ]
                    refine wpAnyH_yes (i := 7) (d := 91) (v := ?_) rfl rfl (by kernel_rfl) (by kernel_rfl) (by kernel_rfl) (fun _ _ _ h => h) (by rfl) ?_ hS0 ?_
                    rotate_left
                    · intro w' hSw; skip; go_simp <;> with_reducible rfl
                    simp only [Act.put, List.setIfInBounds_toArray, List.set_cons_zero, List.set_cons_succ]
                    refine wpAnyH_yes (i := 8) (d := 92) (v := ?_) rfl rfl (by kernel_rfl) (by kernel_rfl) (by kernel_rfl) (fun _ _ _ h => h) (by rfl) ?_ hS0 ?_
                    rotate_left
                    · intro w' hSw; skip; go_simp <;> with_reducible rfl
                    simp only [Act.put, List.setIfInBounds_toArray, List.set_cons_zero, List.set_cons_succ]
                    refine wpAnyH_yes (i := 9) (d := 93) (v := ?_) rfl rfl (by kernel_rfl) (by kernel_rfl) (by kernel_rfl) (fun _ _ _ h => h) (by rfl) ?_ hS0 ?_
                    rotate_left
                    · intro w' hSw; skip; go_simp <;> with_reducible rfl
                    simp only [Act.put, List.setIfInBounds_toArray, List.set_cons_zero, List.set_cons_succ]
                    refine wpAnyH_yes (i := 10) (d := 94) (v := ?_) rfl rfl (by kernel_rfl) (by kernel_rfl) (by kernel_rfl) (fun _ _ _ h => h) (by rfl) ?_ hS0 ?_
                    rotate_left
                    · intro w' hSw; obtain ⟨e0, e1⟩ := HE.out _ hSw; go_simp <;> with_reducible rfl
                    simp only [Act.put, List.setIfInBounds_toArray, List.set_cons_zero, List.set_cons_succ]
                    refine wpAnyH_yes (i := 11) (d := 95) (v := ?_) rfl rfl (by kernel_rfl) (by kernel_rfl) (by kernel_rfl) (fun _ _ _ h => h) (by rfl) ?_ hS0 ?_
                    rotate_left
                    · intro w' hSw; skip; go_simp <;> with_reducible rfl
                    simp only [Act.put, List.setIfInBounds_toArray, List.set_cons_zero, List.set_cons_succ]
                    generalize wp.drew = wD at *
                    refine wpAnyH_one (i := 12) (by kernel_rfl) rfl (by rfl) (fun K hK => ?_)
                    go_simp
                    have hbq : Below wD.heap.size wD (wD.alloc (.cells #[.int .i64 (id i), .int .i64 (id k)] 38)) := (gr1 wD _).below
                    have hS1 := below_next hS0 (Nat.le_refl _) hbq
                    have hrx := rdz_one layN wD (id i, id k) 38 #[.int .i64 (id i), .int .i64 (id k)] rfl
                    have ho3 := OwnZ.below HO3.out hbq
                    have hs3 : w1.heap.size ≤ (wD.alloc (.cells #[.int .i64 (id i), .int .i64 (id k)] 38)).heap.size := hS1.size
                    have hlm := HM.out
                    have hrm := pair_room (q := q) (id := id) (k := k) hk hlt hm
                    rw [hlm] at hrm
                    refine hK.out _ _ hS1 ?_
                    clear hK
                    refine wpAnyH_one (i := 13) (by kernel_rfl) rfl (by rfl) (fun K hK => ?_)
                    refine op_append_z layN (.tmp 84) (.tmp 96) 33 underN (by rfl) w1.heap.size _ (Po.upTo q id b i k) (by rfl) ho3 _ [(id i, id k)] 1 1 (by rfl) hrx rfl (by rw [maxLen_num, hlm]; omega) (by simp only [layN]; rw [hlm]; omega) hs3 ?_
                    intro v2 y2 o2 b2
                    rw [← HU.out] at o2
                    have hl2 : (Po.upTo q id b i (k + 1)).length = m + 1 := by rw [HU.out, List.length_append, hlm]; rfl
                    obtain ⟨B2, d2, hv2, hd2, _⟩ := OwnZ.form o2 hl2
                    subst hv2
                    have HB3 := Lib.hid (b2 w1 hS1)
                    have HO4 := Lib.hid o2
                    have HM4 := Lib.hid hl2
                    refine hK.out _ _ HB3.out ?_
                    clear hK b2 o2 hl2 hS1 hrx ho3 hs3 hlm hrm hbq
                    simp only [Act.put, List.setIfInBounds_toArray, List.set_cons_zero, List.set_cons_succ]
                    refine wpAnyH_yes (i := 14) (d := 8) (v := ?_) rfl rfl (by kernel_rfl) (by kernel_rfl) (by kernel_rfl) (fun _ _ _ h => h) (by rfl) ?_ HB3.out ?_
                    rotate_left
                    · intro w' hSw; skip; go_simp <;> with_reducible rfl
                    simp only [Act.put, List.setIfInBounds_toArray, List.set_cons_zero, List.set_cons_succ]
                    refine wpAnyH_done (by kernel_rfl) ?_ _
                    go_wp2_with fail
                    go_roundg (b - (k + 1))
                    case measure => omega
                    case rel => exact ⟨k + 1, m + 1, d2, B2, by omega, Nat.le_refl _, by go_num, rfl, hd2, HM4, HO4, HB3⟩
                | succ gk =>
                  have hbn : b < n := by omega
                  have w7 : (b : Int) < (n : Int) := by omega
                  obtain ⟨hgm, g2, o2, c2, r0, hg2, r1⟩ := RdM.get (HM1.out.below HB.out) hlt hbn
                  obtain ⟨_, g3, o3, c3, r2, hg3, r3⟩ := RdM.get (HM1.out.below HB.out) hbn hkn
                  obtain ⟨u, hu⟩ : ∃ x, q i b = x := ⟨_, rfl⟩
                  obtain ⟨v, hv⟩ : ∃ x, q b k = x := ⟨_, rfl⟩
                  have hnx : ∀ t2, t2 = (t && !(u && v)) → TellB t2 (q i k = true ∧ ∀ j, j < b + 1 → (q i j && q j k) = false) := fun t2 e => by
                    have h0 := HL.out
                    unfold TellB at h0 ⊢
                    rw [e, Bool.and_eq_true, h0, Bool.not_eq_true']
                    constructor
                    · rintro ⟨⟨h1, h2⟩, h3⟩
                      refine ⟨h1, fun j hj => ?_⟩
                      by_cases ej : j = b
                      · rw [ej, hu, hv]; exact h3
                      · exact h2 j (by omega)
                    · rintro ⟨h1, h2⟩
                      exact ⟨⟨h1, fun j hj => h2 j (by omega)⟩, by rw [← hu, ← hv]; exact h2 b (by omega)⟩
                  have HNX := Lib.hid hnx
                  rw [hu] at r1
                  rw [hv] at r3
                  clear hu hv hnx
                  cases t with
                  | false =>
                    have HL2 := Lib.hid (HNX.out false rfl)
                    clear r0 r1 r2 r3
                    go_wp2_with fail
                    go_roundg gk
                    case measure => omega
                    case rel => exact ⟨b + 1, false, by omega, by go_num, rfl, rfl, HL2⟩
                  | true =>
                    cases u with
                    | false =>
                      have HL2 := Lib.hid (HNX.out true rfl)
                      go_wp2_with fail
                      go_roundg gk
                      case measure => omega
                      case rel => exact ⟨b + 1, true, by omega, by go_num, rfl, rfl, HL2⟩
                    | true =>
                      have HL2 := Lib.hid (HNX.out (!v) (by simp))
                      go_wp2_with fail
                      go_roundg gk
                      case measure => omega
                      case rel => exact ⟨b + 1, !v, by omega, by go_num, rfl, rfl, HL2⟩
            · obtain rfl : k = n := by omega
              have hU := Po.upTo_row (q := q) (id := id) (n := k) (i := i)
              have HM3 : Hid ((Po.upTo q id k (i + 1) 0).length = m) := by rw [← hU]; exact HM.out
              have HO3 : Hid (OwnZ layN wr w1.heap.size (.slice B m d) (Po.upTo q id k (i + 1) 0)) := by rw [← hU]; exact HO.out
              clear hU
              go_wp2_with fail
              go_roundg (k - (i + 1))
              case measure => omega
              case rel => exact ⟨i + 1, m, d, B, by omega, Nat.le_refl _, by go_num, rfl, hmd, HM3, HO3, HB⟩
        · obtain rfl : i = n := by omega
          go_wp2_with fail
          go_ret
          have hU := Po.upTo_all (q := q) (id := id) (n := i)
          exact ⟨B, m, d, rfl, by rw [← hU]; exact HM.out, hmd, by rw [← hU]; exact HO.out.less HBW.out.size, below_next HBW.out (Nat.le_refl _) HB.out⟩
end Go.Proofs.Ytckabmlilbkmbaa
