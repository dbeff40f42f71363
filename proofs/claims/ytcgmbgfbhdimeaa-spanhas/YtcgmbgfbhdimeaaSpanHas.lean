/-
  A value is in the span of predicates just if all of them hold of it: for every row of predicates and every value the call of the law answers true, and all arguments read behind it as they read before. No condition.
-/
import Derived.Test.YtcgmbgfbhdimeaaSSml
import Derived.Test.YtcgmbgfbhdimeaaSArgs
import Derived.Test.YtcgmbgfbhdimeaaPHolds
namespace Go.Proofs.Ytcgmbgfbhdimeaa
open Go.RowKit Go.ChangeShapes Go.WideShapes Go.ChangeAt Go.Sort Spans
/-- What has been asked when the predicates ahead of q have been. -/
def wnt (l : List Pr) (v : Val) (q : Nat) : Bool := Vals.right v.k v.i v.t && decide (∀ p ∈ l.take q, holdsP p v = true)
theorem wnt_zero (l : List Pr) (v : Val) : wnt l v 0 = Vals.right v.k v.i v.t := by unfold wnt; simp
theorem wnt_succ {l : List Pr} (v : Val) {q : Nat} (h : q < l.length) : wnt l v (q + 1) = (wnt l v q && holdsP l[q] v) := by
  unfold wnt
  rw [List.take_succ_eq_append_getElem h, Bool.and_assoc]
  congr 1
  rw [Bool.eq_iff_iff]
  simp only [decide_eq_true_iff, Bool.and_eq_true, List.mem_append, List.mem_singleton]
  constructor
  · intro g; exact ⟨fun p hp => g p (.inl hp), g _ (.inr rfl)⟩
  · rintro ⟨g1, g2⟩ p (hp | hp)
    · exact g1 p hp
    · rw [hp]; exact g2
theorem wnt_has {l : List Pr} {r : Sp} {v : Val} (h : IsAll l r) (h1 : -9223372036854775808 ≤ v.i) (h2 : v.i ≤ 9223372036854775807) {n : Nat} (hn : l.length = n) : has r v = wnt l v n := by
  have hr : rightV v = Vals.right v.k v.i v.t := by unfold rightV; simp [h1, h2]
  unfold wnt
  rw [List.take_of_length_le (by omega), ← hr]
  cases hv : rightV v with
  | false => rw [has_wrong hv]; rfl
  | true => rw [Bool.eq_iff_iff, h.2 v hv]; simp
set_option maxRecDepth 100000 in
set_option maxHeartbeats 8000000 in
theorem walk_SpanHas (w : World) (A : Option Addr) (l : List Pr) (n c : Nat) (hn : l.length = n) (hc : n ≤ c) (hm : c ≤ maxLen) (hr : RdQ w A l) (hl : ∀ a ∈ l, a.n.length ≤ maxLen ∧ a.t.length ≤ maxLen ∧ (Lit.int .i64 a.i).wf = true) (k i : Int) (x : List UInt8) (_ : (Lit.int .i64 k).wf = true) (wi : (Lit.int .i64 i).wf = true) (hx : x.length ≤ maxLen) :
    Calls Try.prog 4 #[.slice A n c, .agg #[.int .i64 k, .int .i64 i, .string ⟨x.toArray⟩]] w fun e w' => e = .returned (.bool true) ∧ Below w.heap.size w w' := by
  rw [maxLen_num] at hm hx
  have bi := bounds_i64 wi
  have HBI : Hid (-9223372036854775808 ≤ i ∧ i ≤ 9223372036854775807) := bi
  have HL2 : Hid (∀ p ∈ l, p.n.length ≤ 9223372036854775807 ∧ p.t.length ≤ 9223372036854775807) := fun p hp => by have := hl p hp; rw [maxLen_num] at this; exact ⟨this.1, this.2.1⟩
  have HL3 : Hid (∀ p ∈ l, -9223372036854775808 ≤ p.i ∧ p.i ≤ 9223372036854775807) := fun p hp => bounds_i64 (hl p hp).2.2
  have HN := Lib.hid hn
  have HR := Lib.hid hr
  clear hn hl hr wi bi
  have hV0 := Blk.new w 24 #[.int .i64 k, .int .i64 i, .string ⟨x.toArray⟩]
  have hb0 := (gr1 w (.cells #[.int .i64 k, .int .i64 i, .string ⟨x.toArray⟩] 24)).below
  go_enter Try.func4, Try.ntmps4
  go_wp2_with fail
  generalize (w.alloc (.cells #[.int .i64 k, .int .i64 i, .string ⟨x.toArray⟩] 24)) = w0 at *
  refine (small_at w0).mono ?_
  rintro e w1 ⟨rfl, hb1⟩
  have hV1 := Blk.below hV0 hb1 hV0.lt
  have hB1 := below_next hb0 (Nat.le_refl _) hb1
  clear hV0 hb0 hb1
  obtain ⟨s0, s1, s2, _⟩ := blk3 hV1
  have hlv := hV1.lt
  cases hfw : fewP l with
  | false =>
    have HFW := Lib.hid hfw
    clear hfw
    go_wp2_with fail
    refine (few_at A l n c HN.out (by omega) HL2.out w1 (HR.out.below hB1) false HFW.out).mono ?_
    rintro e w2 ⟨rfl, rfl⟩
    go_wp2_with fail
    go_ret
    exact ⟨rfl, hB1⟩
  | true =>
    have HFW := Lib.hid hfw
    clear hfw
    go_wp2_with fail
    refine (few_at A l n c HN.out (by omega) HL2.out w1 (HR.out.below hB1) true HFW.out).mono ?_
    rintro e w2 ⟨rfl, rfl⟩
    by_cases hx1 : x.length ≤ 100
    · have v1 : ¬ (100 : Int) < (x.length : Int) := by omega
      go_wp2_with fail
      refine (right_gr k i x w2 hx).mono ?_
      rintro e w3 ⟨rfl, hg3⟩
      have hfw := HFW.out
      unfold fewP at hfw
      rw [Bool.and_eq_true, decide_eq_true_iff, decide_eq_true_iff] at hfw
      have HSH := Lib.hid hfw.1
      have hn24 : n ≤ 24 := by have := HN.out; omega
      clear hfw HFW
      have HV3 := Lib.hid (Blk.below hV1 hg3.below hV1.lt)
      have HB3 := Lib.hid (below_next hB1 (Nat.le_refl _) hg3.below)
      clear s0 s1 s2 hlv hV1 hB1 hg3 v1
      rw [← wnt_zero l ⟨k, i, x⟩]
      go_wp2_with fail
      go_loopg [7, 8] n (fun gg s7 s8 wr => ∃ (q : Nat) (b : Bool), q ≤ n ∧ n - q ≤ gg ∧ s8 = .int .i64 (q : Int) ∧ s7 = .bool b ∧ Hid (wnt l ⟨k, i, x⟩ q = b) ∧ Hid (Blk wr w.heap.size 24 #[.int .i64 k, .int .i64 i, .string ⟨x.toArray⟩]) ∧ Hid (Below w.heap.size w wr))
      case atStart => exact ⟨0, _, Nat.zero_le _, by omega, rfl, rfl, rfl, HV3, HB3⟩
      case round =>
        obtain ⟨q, b, hq, hgg, rfl, rfl, HW, HV, HB⟩ := hrel
        clear HV3 HB3
        by_cases hlt : q < n
        · have hq' : q < l.length := by rw [HN.out]; exact hlt
          have hpl := HSH.out _ (List.getElem_mem hq')
          obtain ⟨g, off, rfl, hg, c0, c1, c2, c3, c4⟩ := RdQ.at5 HR.out hq'
          have HWS := Lib.hid (wnt_succ ⟨k, i, x⟩ hq')
          obtain ⟨z, hz⟩ : ∃ z, l[q] = z := ⟨_, rfl⟩
          rw [hz] at c0 c1 c2 c3 c4 HWS hpl
          clear hz
          obtain ⟨zn, zo, zk, zi, zt⟩ := z
          obtain ⟨hp1, hp2⟩ := hpl
          dsimp only at hp1 hp2
          have w5 : (q : Int) < (n : Int) := by omega
          have w6 : q < n := hlt
          go_wp2_with fail
          have hS0 : Below w.heap.size w wr.drew ∧ Blk wr.drew w.heap.size 24 #[.int .i64 k, .int .i64 i, .string ⟨x.toArray⟩] := ⟨HB.out.drew, HV.out⟩
          refine wp_region_held_drew (S := fun w' => Below w.heap.size w w' ∧ Blk w' w.heap.size 24 #[.int .i64 k, .int .i64 i, .string ⟨x.toArray⟩]) (by kernel_rfl) hS0 (fun _ => ?_)
          cases b with
          | false =>
            have HW2 : Hid (wnt l ⟨k, i, x⟩ (q + 1) = false) := by show _ = _; rw [HWS.out, HW.out]; rfl
            clear HWS HW
            refine wpAnyH_yes (i := 0) (d := 29) (v := ?_) rfl rfl (by kernel_rfl) (by kernel_rfl) (by kernel_rfl) (fun _ _ _ h => h) (by rfl) ?_ hS0 ?_
            rotate_left
            · intro w' hSw; obtain ⟨hb, hv⟩ := hSw; obtain ⟨s0, s1, s2, _⟩ := blk3 hv; go_simp <;> with_reducible rfl
            simp only [Act.put, List.setIfInBounds_toArray, List.set_cons_zero, List.set_cons_succ]
            refine wpAnyH_yes (i := 1) (d := 30) (v := ?_) rfl rfl (by kernel_rfl) (by kernel_rfl) (by kernel_rfl) (fun _ _ _ h => h) (by rfl) ?_ hS0 ?_
            rotate_left
            · intro w' hSw; obtain ⟨hb, hv⟩ := hSw; obtain ⟨s0, s1, s2, _⟩ := blk3 hv; go_simp <;> with_reducible rfl
            simp only [Act.put, List.setIfInBounds_toArray, List.set_cons_zero, List.set_cons_succ]
            refine wpAnyH_no (i := 2) (d := 31) rfl rfl (by kernel_rfl) (by kernel_rfl) (by kernel_rfl) (fun _ _ _ h => h) (by rfl) hS0 ?_
            simp only [Act.put, List.setIfInBounds_toArray, List.set_cons_zero, List.set_cons_succ]
            refine wpAnyH_no (i := 3) (d := 32) rfl rfl (by kernel_rfl) (by kernel_rfl) (by kernel_rfl) (fun _ _ _ h => h) (by rfl) hS0 ?_
            simp only [Act.put, List.setIfInBounds_toArray, List.set_cons_zero, List.set_cons_succ]
            refine wpAnyH_no (i := 4) (d := 33) rfl rfl (by kernel_rfl) (by kernel_rfl) (by kernel_rfl) (fun _ _ _ h => h) (by rfl) hS0 ?_
            simp only [Act.put, List.setIfInBounds_toArray, List.set_cons_zero, List.set_cons_succ]
            refine wpAnyH_no (i := 5) (d := 34) rfl rfl (by kernel_rfl) (by kernel_rfl) (by kernel_rfl) (fun _ _ _ h => h) (by rfl) hS0 ?_
            simp only [Act.put, List.setIfInBounds_toArray, List.set_cons_zero, List.set_cons_succ]
            refine wpAnyH_no (i := 6) (d := 35) rfl rfl (by kernel_rfl) (by kernel_rfl) (by kernel_rfl) (fun _ _ _ h => h) (by rfl) hS0 ?_
            simp only [Act.put, List.setIfInBounds_toArray, List.set_cons_zero, List.set_cons_succ]
            refine wpAnyH_no (i := 7) (d := 36) rfl rfl (by kernel_rfl) (by kernel_rfl) (by kernel_rfl) (fun _ _ _ h => h) (by rfl) hS0 ?_
            simp only [Act.put, List.setIfInBounds_toArray, List.set_cons_zero, List.set_cons_succ]
            refine wpAnyH_yes (i := 8) (d := 37) (v := ?_) rfl rfl (by kernel_rfl) (by kernel_rfl) (by kernel_rfl) (fun _ _ _ h => h) (by rfl) ?_ hS0 ?_
            rotate_left
            · intro w' hSw; obtain ⟨hb, hv⟩ := hSw; obtain ⟨s0, s1, s2, _⟩ := blk3 hv; go_simp <;> with_reducible rfl
            simp only [Act.put, List.setIfInBounds_toArray, List.set_cons_zero, List.set_cons_succ]
            refine wpAnyH_yes (i := 9) (d := 7) (v := ?_) rfl rfl (by kernel_rfl) (by kernel_rfl) (by kernel_rfl) (fun _ _ _ h => h) (by rfl) ?_ hS0 ?_
            rotate_left
            · intro w' hSw; obtain ⟨hb, hv⟩ := hSw; obtain ⟨s0, s1, s2, _⟩ := blk3 hv; go_simp <;> with_reducible rfl
            simp only [Act.put, List.setIfInBounds_toArray, List.set_cons_zero, List.set_cons_succ]
            refine wpAnyH_done (by kernel_rfl) ?_ _
            go_wp2_with fail
            go_roundg (n - (q + 1))
            case measure => omega
            case rel => exact ⟨q + 1, false, by omega, Nat.le_refl _, by go_num, rfl, HW2, hS0.2, hS0.1⟩
          | true =>
            obtain ⟨b2, hb2⟩ : ∃ b2, holdsP ⟨zn, zo, zk, zi, zt⟩ ⟨k, i, x⟩ = b2 := ⟨_, rfl⟩
            have HB2 := Lib.hid hb2
            have HW2 : Hid (wnt l ⟨k, i, x⟩ (q + 1) = b2) := by show _ = _; rw [HWS.out, HW.out, hb2]; rfl
            clear HWS HW hb2
            refine wpAnyH_yes (i := 0) (d := 29) (v := ?_) rfl rfl (by kernel_rfl) (by kernel_rfl) (by kernel_rfl) (fun _ _ _ h => h) (by rfl) ?_ hS0 ?_
            rotate_left
            · intro w' hSw; obtain ⟨hb, hv⟩ := hSw; obtain ⟨s0, s1, s2, _⟩ := blk3 hv; go_simp <;> with_reducible rfl
            simp only [Act.put, List.setIfInBounds_toArray, List.set_cons_zero, List.set_cons_succ]
            refine wpAnyH_yes (i := 1) (d := 30) (v := ?_) rfl rfl (by kernel_rfl) (by kernel_rfl) (by kernel_rfl) (fun _ _ _ h => h) (by rfl) ?_ hS0 ?_
            rotate_left
            · intro w' hSw; obtain ⟨hb, hv⟩ := hSw; obtain ⟨s0, s1, s2, _⟩ := blk3 hv; go_simp <;> with_reducible rfl
            simp only [Act.put, List.setIfInBounds_toArray, List.set_cons_zero, List.set_cons_succ]
            refine wpAnyH_yes (i := 2) (d := 31) (v := ?_) rfl rfl (by kernel_rfl) (by kernel_rfl) (by kernel_rfl) (fun _ _ _ h => h) (by rfl) ?_ hS0 ?_
            rotate_left
            · intro w' hSw; obtain ⟨hb, hv⟩ := hSw; obtain ⟨s0, s1, s2, _⟩ := blk3 hv; have r0 := (hb.cell (p := ⟨g, off + q * 5, none⟩) hg).trans c0; have r1 := (hb.cell (p := ⟨g, off + q * 5 + 1, none⟩) hg).trans c1; have r2 := (hb.cell (p := ⟨g, off + q * 5 + 2, none⟩) hg).trans c2; have r3 := (hb.cell (p := ⟨g, off + q * 5 + 3, none⟩) hg).trans c3; have r4 := (hb.cell (p := ⟨g, off + q * 5 + 4, none⟩) hg).trans c4; go_simp <;> with_reducible rfl
            simp only [Act.put, List.setIfInBounds_toArray, List.set_cons_zero, List.set_cons_succ]
            refine wpAnyH_yes (i := 3) (d := 32) (v := ?_) rfl rfl (by kernel_rfl) (by kernel_rfl) (by kernel_rfl) (fun _ _ _ h => h) (by rfl) ?_ hS0 ?_
            rotate_left
            · intro w' hSw; obtain ⟨hb, hv⟩ := hSw; obtain ⟨s0, s1, s2, _⟩ := blk3 hv; have r0 := (hb.cell (p := ⟨g, off + q * 5, none⟩) hg).trans c0; have r1 := (hb.cell (p := ⟨g, off + q * 5 + 1, none⟩) hg).trans c1; have r2 := (hb.cell (p := ⟨g, off + q * 5 + 2, none⟩) hg).trans c2; have r3 := (hb.cell (p := ⟨g, off + q * 5 + 3, none⟩) hg).trans c3; have r4 := (hb.cell (p := ⟨g, off + q * 5 + 4, none⟩) hg).trans c4; go_simp <;> with_reducible rfl
            simp only [Act.put, List.setIfInBounds_toArray, List.set_cons_zero, List.set_cons_succ]
            refine wpAnyH_yes (i := 4) (d := 33) (v := ?_) rfl rfl (by kernel_rfl) (by kernel_rfl) (by kernel_rfl) (fun _ _ _ h => h) (by rfl) ?_ hS0 ?_
            rotate_left
            · intro w' hSw; obtain ⟨hb, hv⟩ := hSw; obtain ⟨s0, s1, s2, _⟩ := blk3 hv; have r0 := (hb.cell (p := ⟨g, off + q * 5, none⟩) hg).trans c0; have r1 := (hb.cell (p := ⟨g, off + q * 5 + 1, none⟩) hg).trans c1; have r2 := (hb.cell (p := ⟨g, off + q * 5 + 2, none⟩) hg).trans c2; have r3 := (hb.cell (p := ⟨g, off + q * 5 + 3, none⟩) hg).trans c3; have r4 := (hb.cell (p := ⟨g, off + q * 5 + 4, none⟩) hg).trans c4; go_simp <;> with_reducible rfl
            simp only [Act.put, List.setIfInBounds_toArray, List.set_cons_zero, List.set_cons_succ]
            refine wpAnyH_yes (i := 5) (d := 34) (v := ?_) rfl rfl (by kernel_rfl) (by kernel_rfl) (by kernel_rfl) (fun _ _ _ h => h) (by rfl) ?_ hS0 ?_
            rotate_left
            · intro w' hSw; obtain ⟨hb, hv⟩ := hSw; obtain ⟨s0, s1, s2, _⟩ := blk3 hv; have r0 := (hb.cell (p := ⟨g, off + q * 5, none⟩) hg).trans c0; have r1 := (hb.cell (p := ⟨g, off + q * 5 + 1, none⟩) hg).trans c1; have r2 := (hb.cell (p := ⟨g, off + q * 5 + 2, none⟩) hg).trans c2; have r3 := (hb.cell (p := ⟨g, off + q * 5 + 3, none⟩) hg).trans c3; have r4 := (hb.cell (p := ⟨g, off + q * 5 + 4, none⟩) hg).trans c4; go_simp <;> with_reducible rfl
            simp only [Act.put, List.setIfInBounds_toArray, List.set_cons_zero, List.set_cons_succ]
            refine wpAnyH_yes (i := 6) (d := 35) (v := ?_) rfl rfl (by kernel_rfl) (by kernel_rfl) (by kernel_rfl) (fun _ _ _ h => h) (by rfl) ?_ hS0 ?_
            rotate_left
            · intro w' hSw; obtain ⟨hb, hv⟩ := hSw; obtain ⟨s0, s1, s2, _⟩ := blk3 hv; have r0 := (hb.cell (p := ⟨g, off + q * 5, none⟩) hg).trans c0; have r1 := (hb.cell (p := ⟨g, off + q * 5 + 1, none⟩) hg).trans c1; have r2 := (hb.cell (p := ⟨g, off + q * 5 + 2, none⟩) hg).trans c2; have r3 := (hb.cell (p := ⟨g, off + q * 5 + 3, none⟩) hg).trans c3; have r4 := (hb.cell (p := ⟨g, off + q * 5 + 4, none⟩) hg).trans c4; go_simp <;> with_reducible rfl
            simp only [Act.put, List.setIfInBounds_toArray, List.set_cons_zero, List.set_cons_succ]
            generalize wr.drew = wx at *
            refine wpAnyH_one (i := 7) (by kernel_rfl) rfl (by rfl) (fun Ka hKa => ?_)
            go_simp
            have hh1 : zn.length ≤ 9223372036854775807 := by omega
            have hh2 : zt.length ≤ 9223372036854775807 := by omega
            have hh3 : Preds.holds zn zo zk zi zt k i x = b2 := HB2.out
            with_reducible refine (holds_is zn zo zk zi zt k i x wx hh1 hh2 hx b2 hh3).mono ?_
            rintro e wy ⟨rfl, hby⟩
            have hS1 : Below w.heap.size w wy ∧ Blk wy w.heap.size 24 #[.int .i64 k, .int .i64 i, .string ⟨x.toArray⟩] := ⟨below_next hS0.1 (by have := hS0.1.size; omega) hby, Blk.below hS0.2 hby hS0.2.lt⟩
            go_wp2_with fail
            refine hKa.out _ _ hS1 ?_
            clear hKa Ka
            refine wpAnyH_yes (i := 8) (d := 37) (v := ?_) rfl rfl (by kernel_rfl) (by kernel_rfl) (by kernel_rfl) (fun _ _ _ h => h) (by rfl) ?_ hS1 ?_
            rotate_left
            · intro w' hSw; obtain ⟨hb, hv⟩ := hSw; obtain ⟨s0, s1, s2, _⟩ := blk3 hv; go_simp <;> with_reducible rfl
            simp only [Act.put, List.setIfInBounds_toArray, List.set_cons_zero, List.set_cons_succ]
            refine wpAnyH_yes (i := 9) (d := 7) (v := ?_) rfl rfl (by kernel_rfl) (by kernel_rfl) (by kernel_rfl) (fun _ _ _ h => h) (by rfl) ?_ hS1 ?_
            rotate_left
            · intro w' hSw; obtain ⟨hb, hv⟩ := hSw; obtain ⟨s0, s1, s2, _⟩ := blk3 hv; go_simp <;> with_reducible rfl
            simp only [Act.put, List.setIfInBounds_toArray, List.set_cons_zero, List.set_cons_succ]
            refine wpAnyH_done (by kernel_rfl) ?_ _
            go_wp2_with fail
            go_roundg (n - (q + 1))
            case measure => omega
            case rel => exact ⟨q + 1, b2, by omega, Nat.le_refl _, by go_num, rfl, HW2, hS1.2, hS1.1⟩
        · have hqn : Hid (q = n) := by show q = n; omega
          have HW2 : Hid (wnt l ⟨k, i, x⟩ n = b) := by show _ = _; rw [← hqn.out]; exact HW.out
          clear HW
          have w5 : ¬ (q : Int) < (n : Int) := by omega
          go_wp2_with fail
          have hS0 : Below w.heap.size w wr.drew ∧ Blk wr.drew w.heap.size 24 #[.int .i64 k, .int .i64 i, .string ⟨x.toArray⟩] := ⟨HB.out.drew, HV.out⟩
          refine wp_region_held_drew (S := fun w' => Below w.heap.size w w' ∧ Blk w' w.heap.size 24 #[.int .i64 k, .int .i64 i, .string ⟨x.toArray⟩]) (by kernel_rfl) hS0 (fun _ => ?_)
          refine wpAnyH_yes (i := 0) (d := 38) (v := ?_) rfl rfl (by kernel_rfl) (by kernel_rfl) (by kernel_rfl) (fun _ _ _ h => h) (by rfl) ?_ hS0 ?_
          rotate_left
          · intro w' hSw; obtain ⟨hb, hv⟩ := hSw; obtain ⟨s0, s1, s2, _⟩ := blk3 hv; go_simp <;> with_reducible rfl
          simp only [Act.put, List.setIfInBounds_toArray, List.set_cons_zero, List.set_cons_succ]
          refine wpAnyH_yes (i := 1) (d := 39) (v := ?_) rfl rfl (by kernel_rfl) (by kernel_rfl) (by kernel_rfl) (fun _ _ _ h => h) (by rfl) ?_ hS0 ?_
          rotate_left
          · intro w' hSw; obtain ⟨hb, hv⟩ := hSw; obtain ⟨s0, s1, s2, _⟩ := blk3 hv; go_simp <;> with_reducible rfl
          simp only [Act.put, List.setIfInBounds_toArray, List.set_cons_zero, List.set_cons_succ]
          refine wpAnyH_yes (i := 2) (d := 40) (v := ?_) rfl rfl (by kernel_rfl) (by kernel_rfl) (by kernel_rfl) (fun _ _ _ h => h) (by rfl) ?_ hS0 ?_
          rotate_left
          · intro w' hSw; obtain ⟨hb, hv⟩ := hSw; obtain ⟨s0, s1, s2, _⟩ := blk3 hv; go_simp <;> with_reducible rfl
          simp only [Act.put, List.setIfInBounds_toArray, List.set_cons_zero, List.set_cons_succ]
          refine wpAnyH_yes (i := 4) (d := 42) (v := ?_) rfl rfl (by kernel_rfl) (by kernel_rfl) (by kernel_rfl) (fun _ _ _ h => h) (by rfl) ?_ hS0 ?_
          rotate_left
          · intro w' hSw; obtain ⟨hb, hv⟩ := hSw; obtain ⟨s0, s1, s2, _⟩ := blk3 hv; go_simp <;> with_reducible rfl
          simp only [Act.put, List.setIfInBounds_toArray, List.set_cons_zero, List.set_cons_succ]
          refine wpAnyH_yes (i := 6) (d := 44) (v := ?_) rfl rfl (by kernel_rfl) (by kernel_rfl) (by kernel_rfl) (fun _ _ _ h => h) (by rfl) ?_ hS0 ?_
          rotate_left
          · intro w' hSw; obtain ⟨hb, hv⟩ := hSw; obtain ⟨s0, s1, s2, _⟩ := blk3 hv; go_simp <;> with_reducible rfl
          simp only [Act.put, List.setIfInBounds_toArray, List.set_cons_zero, List.set_cons_succ]
          have hRx := HR.out.below hS0.1
          have hbd : ∀ p ∈ l, p.n.length ≤ 100 ∧ p.t.length ≤ 100 ∧ -9223372036854775808 ≤ p.i ∧ p.i ≤ 9223372036854775807 := fun p hp => ⟨(HSH.out p hp).1, (HSH.out p hp).2, HL3.out p hp⟩
          have hn0 := HN.out
          generalize wr.drew = wx at *
          refine wpAnyH_one (i := 3) (by kernel_rfl) rfl (by rfl) (fun Ka hKa => ?_)
          go_simp
          with_reducible refine (fold_at A l n c hn0 (by omega) hbd wx hRx).mono ?_
          rintro e wy ⟨⟨rK, rlo, rhi, rf, rt, ro, rno⟩, hall, hrl, A7, n7, c7, rfl, hl7, hc7, ho7, hb7⟩
          dsimp only at hrl hl7 ho7
          have hS1 : Below w.heap.size w wy ∧ Blk wy w.heap.size 24 #[.int .i64 k, .int .i64 i, .string ⟨x.toArray⟩] := ⟨below_next hS0.1 (by have := hS0.1.size; omega) hb7, Blk.below hS0.2 hb7 hS0.2.lt⟩
          have HHAS : Hid (has ⟨rK, rlo, rhi, rf, rt, ro, rno⟩ ⟨k, i, x⟩ = b) := (wnt_has hall HBI.out.1 HBI.out.2 hn0).trans HW2.out
          have hcan : Canon ⟨rK, rlo, rhi, rf, rt, ro, rno⟩ := hall.1
          have hrd := Gives.rd ho7
          have hn7 : n7 ≤ 100000 := by omega
          have hb1' := HBI.out.1
          have hb2' := HBI.out.2
          clear hn0
          go_wp2_with fail
          refine hKa.out _ _ hS1 ?_
          clear hKa Ka
          refine wpAnyH_one (i := 5) (by kernel_rfl) rfl (by rfl) (fun Ka hKa => ?_)
          go_simp
          have hra : (⟨rK, rlo, rhi, rf, rt, ro, rno⟩ : Sp) = ⟨rK, rlo, rhi, rf, rt, ro, (⟨rK, rlo, rhi, rf, rt, ro, rno⟩ : Sp).no⟩ := rfl
          have hrn : (⟨rK, rlo, rhi, rf, rt, ro, rno⟩ : Sp).no.length = n7 := hl7
          have hrr : RdW wy A7 (⟨rK, rlo, rhi, rf, rt, ro, rno⟩ : Sp).no := hrd
          have hhb : has ⟨rK, rlo, rhi, rf, rt, ro, rno⟩ ⟨k, i, x⟩ = b := HHAS.out
          with_reducible refine (has_is rK rlo rhi rf rt ro A7 n7 c7 ⟨rK, rlo, rhi, rf, rt, ro, rno⟩ hra hcan k i x wy hrn hn7 hx hb1' hb2' hrr b hhb).mono ?_
          rintro e wz ⟨rfl, hgz⟩
          have hS2 : Below w.heap.size w wz ∧ Blk wz w.heap.size 24 #[.int .i64 k, .int .i64 i, .string ⟨x.toArray⟩] := ⟨below_next hS1.1 (by have := hS1.1.size; omega) hgz.below, Blk.below hS1.2 hgz.below hS1.2.lt⟩
          clear hhb hra hrn hrr
          go_wp2_with fail
          refine hKa.out _ _ hS2 ?_
          clear hKa Ka
          cases b
          · skip
            refine wpAnyH_yes (i := 7) (d := 45) (v := ?_) rfl rfl (by kernel_rfl) (by kernel_rfl) (by kernel_rfl) (fun _ _ _ h => h) (by rfl) ?_ hS2 ?_
            rotate_left
            · intro w' hSw; obtain ⟨hb, hv⟩ := hSw; obtain ⟨s0, s1, s2, _⟩ := blk3 hv; go_simp <;> with_reducible rfl
            simp only [Act.put, List.setIfInBounds_toArray, List.set_cons_zero, List.set_cons_succ]
            refine wpAnyH_yes (i := 8) (d := 46) (v := ?_) rfl rfl (by kernel_rfl) (by kernel_rfl) (by kernel_rfl) (fun _ _ _ h => h) (by rfl) ?_ hS2 ?_
            rotate_left
            · intro w' hSw; obtain ⟨hb, hv⟩ := hSw; obtain ⟨s0, s1, s2, _⟩ := blk3 hv; go_simp <;> with_reducible rfl
            simp only [Act.put, List.setIfInBounds_toArray, List.set_cons_zero, List.set_cons_succ]
            refine wpAnyH_yes (i := 9) (d := 4) (v := ?_) rfl rfl (by kernel_rfl) (by kernel_rfl) (by kernel_rfl) (fun _ _ _ h => h) (by rfl) ?_ hS2 ?_
            rotate_left
            · intro w' hSw; obtain ⟨hb, hv⟩ := hSw; obtain ⟨s0, s1, s2, _⟩ := blk3 hv; go_simp <;> with_reducible rfl
            simp only [Act.put, List.setIfInBounds_toArray, List.set_cons_zero, List.set_cons_succ]
            refine wpAnyH_done (by kernel_rfl) ?_ _
            go_wp2_with fail
            go_ret
            exact ⟨rfl, hS2.1⟩
          · skip
            refine wpAnyH_yes (i := 7) (d := 45) (v := ?_) rfl rfl (by kernel_rfl) (by kernel_rfl) (by kernel_rfl) (fun _ _ _ h => h) (by rfl) ?_ hS2 ?_
            rotate_left
            · intro w' hSw; obtain ⟨hb, hv⟩ := hSw; obtain ⟨s0, s1, s2, _⟩ := blk3 hv; go_simp <;> with_reducible rfl
            simp only [Act.put, List.setIfInBounds_toArray, List.set_cons_zero, List.set_cons_succ]
            refine wpAnyH_yes (i := 8) (d := 46) (v := ?_) rfl rfl (by kernel_rfl) (by kernel_rfl) (by kernel_rfl) (fun _ _ _ h => h) (by rfl) ?_ hS2 ?_
            rotate_left
            · intro w' hSw; obtain ⟨hb, hv⟩ := hSw; obtain ⟨s0, s1, s2, _⟩ := blk3 hv; go_simp <;> with_reducible rfl
            simp only [Act.put, List.setIfInBounds_toArray, List.set_cons_zero, List.set_cons_succ]
            refine wpAnyH_yes (i := 9) (d := 4) (v := ?_) rfl rfl (by kernel_rfl) (by kernel_rfl) (by kernel_rfl) (fun _ _ _ h => h) (by rfl) ?_ hS2 ?_
            rotate_left
            · intro w' hSw; obtain ⟨hb, hv⟩ := hSw; obtain ⟨s0, s1, s2, _⟩ := blk3 hv; go_simp <;> with_reducible rfl
            simp only [Act.put, List.setIfInBounds_toArray, List.set_cons_zero, List.set_cons_succ]
            refine wpAnyH_done (by kernel_rfl) ?_ _
            go_wp2_with fail
            go_ret
            exact ⟨rfl, hS2.1⟩
    · have v1 : (100 : Int) < (x.length : Int) := by omega
      go_wp2_with fail
      go_ret
      exact ⟨rfl, hB1⟩

/-! ### The row's step. -/
namespace spanHas
theorem own : ownKnob Try.prog.godebug = none := by kernel_rfl
theorem laidOut : laidOutB Try.prog = true := by kernel_rfl
set_option linter.unusedVariables false in
set_option maxRecDepth 100000 in
theorem lifted (os : Os) (started : os.Started) (H : Type) (enc : TypeId × Value → H) :
    ReturnsInHanded {} Try.checked os 4 .any (Rows.spanHasSpec.pre6 enc Try.prog Try.f4 Rows.spanHasRow.domain false) (Rows.spanHasSpec.post enc Try.prog Try.f4 false true false false) := by
  refine returnsInHanded_of_change_sized (C := Try.checked) own started (by kernel_rfl) Try.func4
    (ChangeSpec.witness6 (enc := enc) (C := Try.checked) false ⟨#[], #[.slice none 0 0, .agg #[.int .i64 0, .int .i64 0, .string ⟨#[]⟩]], []⟩ 8 (by kernel_rfl) (by kernel_rfl) (by kernel_rfl) (by kernel_rfl)) ?_
  intro W base args ds gs before hval0 hW hcnd hsz0 _
  have hval : ∀ (j : Nat) t v, Try.f4.params[j]? = some t → args[j]? = some v → Value.okWide Try.prog W .any base t v := hval0
  have hsz : (DataW.weightsEach Try.prog (Try.f4.params.toList ++ Rows.spanHasSpec.plain.varTypes Try.prog) (ds ++ gs)).all (· ≤ reachBytes) = true := hsz0
  have hW' := hW
  obtain ⟨p, q, hA0, hV, rfl, hfz, hnd⟩ := hW
  have hA : DataW.TrodAll enc Try.prog W 0 (fun _ => true) true Try.f4.params.toList args.toList ds p := hA0
  rw [Try.params4] at hA hval hsz
  obtain ⟨v0, vs0, d0, ds0, p0, q0, hargs, rfl, rfl, h0, r0⟩ := trodAll_cons hA
  obtain ⟨v1, vs1, d1, ds1, p1, q1, rfl, rfl, rfl, h1, r1⟩ := trodAll_cons r0
  obtain ⟨rfl, rfl, rfl⟩ := trodAll_nil r1
  obtain rfl : args = #[v0, v1] := by cases args; simp_all
  obtain ⟨rfl, rfl⟩ := trodVars_none hV
  obtain ⟨a0, len0, cap0, rfl⟩ := okWide_slice Try.underlying22 (hval 0 22 v0 rfl rfl)
  have k0 := h0
  have lt0 : ∀ x ∈ p0, x.block < W.heap.size := by obtain ⟨m, hm⟩ := k0; exact DataW.trod_lt m _ _ _ hm
  obtain ⟨es0, hl0, hc0, hm0, rd0, hw0⟩ := open_preds_of Try.underlying22 Try.underlying40 (by kernel_rfl) ⟨rfl, rfl, by kernel_rfl⟩ ⟨rfl, rfl, by kernel_rfl⟩ ⟨rfl, rfl, by kernel_rfl⟩ Try.underlying9 Try.underlying3 Try.underlying24 ⟨rfl, rfl, by kernel_rfl⟩ ⟨rfl, rfl, by kernel_rfl⟩ ⟨rfl, rfl, by kernel_rfl⟩ Try.underlying3 Try.underlying3 Try.underlying9 k0
  obtain ⟨kk1, ii1, ss1, rfl, wk1, wi1, ws1⟩ := open_val_of Try.underlying24 (by kernel_rfl) (by kernel_rfl) Try.underlying3 Try.underlying3 Try.underlying9 (hval 1 24 v1 rfl rfl) h1
  have k1 := h1
  have lt1 : ∀ x ∈ p1, x.block < W.heap.size := by obtain ⟨m, hm⟩ := k1; exact DataW.trod_lt m _ _ _ hm
  clear hA0 hval0
  refine (walk_SpanHas W a0 es0 len0 cap0 hl0 hc0 hm0 rd0 hw0 kk1 ii1 ss1 wk1 wi1 ws1).mono fun e W' ⟨he, bel⟩ => ?_
  subst he
  exact ⟨_, rfl, _, _, _, [], _, [], hW', trodAll_mk1 (shut_bool Try.underlying4 _), (trodAll_cons_mk (Below.trod laidOut (by kernel_rfl) (of_decide_eq_true (by kernel_rfl)) k0 bel lt0) (trodAll_cons_mk (Below.trod laidOut (by kernel_rfl) (of_decide_eq_true (by kernel_rfl)) k1 bel lt1) trodAll_mk0)), rfl, bel.frame _, fun h => by cases h⟩
theorem over : Rows.spanHasRow.holds Try.pinned (OpenSpec.ofChange Rows.spanHasSpec) :=
  OpenClaim.holds_of_wide 4 Try.f4 rfl rfl rfl rfl rfl rfl rfl ⟨rfl, rfl, rfl, rfl, rfl⟩ rfl rfl rfl rfl rfl (by kernel_rfl) Try.func4 (by kernel_rfl)
    (of_decide_eq_true (by kernel_rfl)) (by unfold Func.isWrapper; first | (rw [if_pos (by decide +kernel)]; kernel_rfl) | (rw [if_neg (by decide +kernel)]; exact ⟨rfl, rfl⟩))
    (fun os started H enc _ => lifted os started H enc)
end spanHas
/-- THE STATEMENT. -/
theorem spanHas_holds : Rows.SpanHasSaid := spanHas.over
#print axioms spanHas_holds
end Go.Proofs.Ytcgmbgfbhdimeaa
