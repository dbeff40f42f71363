/- Contracts of the program and of the document (VCmp, VComp, VRef, EGet, ERight), each used further on. -/
import Derived.BigQuiet
import Derived.Test.YtckabmlilbkmbaaM1
namespace Go.Proofs.Ytckabmlilbkmbaa
open Go.RowKit
set_option maxRecDepth 100000 in
theorem nanInt_at (a : Int) (w : World) : Calls Try.prog 90 #[.int .i64 a] w fun e w' => e = .returned (.bool false) ∧ w = w' := by
  go_enter Try.func90, Try.ntmps90
  go_wp2
  go_ret
  exact ⟨by simp, rfl⟩
set_option maxRecDepth 100000 in
theorem cmpInt_at (a b : Int) (w : World) : Calls Try.prog 81 #[.int .i64 a, .int .i64 b] w fun e w' => e = .returned (.int .i64 (Vals.cmpI a b)) ∧ w = w' := by
  go_enter Try.func81, Try.ntmps81
  go_wp2_with fail
  refine (nanInt_at a w).mono ?_
  rintro e w' ⟨rfl, rfl⟩
  go_wp2_with fail
  refine (nanInt_at b w).mono ?_
  rintro e w' ⟨rfl, rfl⟩
  go_wp2
  all_goals (go_ret; refine ⟨ret_int ?_, rfl⟩; simp_all [Vals.cmpI])
  rw [if_neg (by omega), if_neg (by omega)]
def or3 (a b c : Int) : Int := if a ≠ 0 then a else if b ≠ 0 then b else c
set_option maxRecDepth 100000 in
theorem or_at (w : World) (g : Nat) (a b c : Int) (hB : Blk w g 3 #[.int .i64 a, .int .i64 b, .int .i64 c]) :
    Calls Try.prog 80 #[.slice (some ⟨g, 0, none⟩) 3 3] w fun e w' => e = .returned (.int .i64 (or3 a b c)) ∧ w = w' := by
  obtain ⟨c0, c1, c2, f0, f1, f2⟩ := blk3 hB
  go_enter Try.func80, Try.ntmps80
  go_wp2_with fail
  go_loopw [8] (fun x wr => ∃ q : Nat, q ≤ 3 ∧ x = .int .i64 (q : Int) ∧ w = wr ∧ (0 < q → a = 0) ∧ (1 < q → b = 0) ∧ (2 < q → c = 0)) (fun x _ => 3 - (intOf x).toNat)
  case atStart => exact ⟨0, by omega, rfl, rfl, by omega, by omega, by omega⟩
  case round =>
    obtain ⟨q, hq, rfl, rfl, h0, h1, h2⟩ := hrel
    by_cases hlt : q < 3
    · obtain ⟨v, hc, h3, h4⟩ : ∃ v, w.cell? ⟨g, q, none⟩ = some (.int .i64 v) ∧ (v = 0 → (0 < q + 1 → a = 0) ∧ (1 < q + 1 → b = 0) ∧ (2 < q + 1 → c = 0)) ∧ (v ≠ 0 → or3 a b c = v) := by
        have h3 : q = 0 ∨ q = 1 ∨ q = 2 := by omega
        rcases h3 with rfl | rfl | rfl
        · exact ⟨a, c0, fun h => ⟨fun _ => h, by omega, by omega⟩, fun h => by unfold or3; rw [if_pos h]⟩
        · exact ⟨b, c1, fun h => ⟨fun _ => h0 (by omega), fun _ => h, by omega⟩, fun h => by unfold or3; rw [if_neg (by simp [h0]), if_pos h]⟩
        · exact ⟨c, c2, fun h => ⟨fun _ => h0 (by omega), fun _ => h1 (by omega), fun _ => h⟩, fun h => by unfold or3; rw [if_neg (by simp [h0]), if_neg (by simp [h1])]⟩
      clear c0 c1 c2 f0 f1 f2 h0 h1 h2
      have hf := hB.frozen q
      by_cases hv : v = 0
      · have h5 := Lib.hid (h3 hv)
        subst hv
        clear h3 h4
        go_wp2_with fail
        go_roundw
        case rel => exact ⟨q + 1, by omega, by go_num, trivial, h5.out⟩
        case measure => simp [intOf]; omega
      · have hd : (v == 0) = false := by simpa using hv
        have h5 := Lib.hid (h4 hv)
        clear h3 h4 hv
        go_wp2_with fail
        go_ret
        exact ⟨ret_int h5.out.symm, rfl⟩
    · obtain rfl : q = 3 := by omega
      have h5 : Hid (or3 a b c = 0) := by
        show _ = _
        unfold or3
        simp [h0, h1, h2]
      clear c0 c1 c2 f0 f1 f2 h0 h1 h2
      go_wp2_with fail
      go_ret
      exact ⟨ret_int h5.out.symm, rfl⟩
end Go.Proofs.Ytckabmlilbkmbaa
namespace Go.Proofs.Ytckabmlilbkmbaa
open Go.RowKit
theorem Grown.drew {w w' : World} (h : Grown w w') : Grown w w'.drew := h.trans ⟨1, #[], by rw [Go.Sort.grow_empty]; rfl⟩
set_option maxRecDepth 100000 in
set_option maxHeartbeats 800000 in
theorem compare_gr (k i : Int) (t : List UInt8) (k' i' : Int) (t' : List UInt8) (w : World) :
    Calls Try.prog 65 #[.agg #[.int .i64 k, .int .i64 i, .string ⟨t.toArray⟩], .agg #[.int .i64 k', .int .i64 i', .string ⟨t'.toArray⟩]] w fun e w' => e = .returned (.int .i64 (Vals.cmp k i t k' i' t')) ∧ Grown w w' := by
  go_enter Try.func65, Try.ntmps65
  go_wp2_with fail
  have hB1 : Blk ((w.alloc (.cells #[.int .i64 k, .int .i64 i, .string ⟨t.toArray⟩] 45)).alloc (.cells #[.int .i64 k', .int .i64 i', .string ⟨t'.toArray⟩] 45)) w.heap.size 45 #[.int .i64 k, .int .i64 i, .string ⟨t.toArray⟩] := (Blk.new w _ _).alloc _
  have hB2 : Blk ((w.alloc (.cells #[.int .i64 k, .int .i64 i, .string ⟨t.toArray⟩] 45)).alloc (.cells #[.int .i64 k', .int .i64 i', .string ⟨t'.toArray⟩] 45)) (w.heap.size + 1) 45 #[.int .i64 k', .int .i64 i', .string ⟨t'.toArray⟩] := by
    have := Blk.new (w.alloc (.cells #[.int .i64 k, .int .i64 i, .string ⟨t.toArray⟩] 45)) 45 #[.int .i64 k', .int .i64 i', .string ⟨t'.toArray⟩]
    simpa using this
  have hb : Grown w ((w.alloc (.cells #[.int .i64 k, .int .i64 i, .string ⟨t.toArray⟩] 45)).alloc (.cells #[.int .i64 k', .int .i64 i', .string ⟨t'.toArray⟩] 45)) := ((Grown.refl _).alloc _).alloc _
  generalize ((w.alloc (.cells #[.int .i64 k, .int .i64 i, .string ⟨t.toArray⟩] 45)).alloc (.cells #[.int .i64 k', .int .i64 i', .string ⟨t'.toArray⟩] 45)) = w2 at *
  have hkeep : Hid (∀ w', Grown w2 w' → Grown w2 w' ∧ w'.cell? ⟨w.heap.size, 0, none⟩ = some (.int .i64 k) ∧ w'.cell? ⟨w.heap.size, 1, none⟩ = some (.int .i64 i) ∧ w'.cell? ⟨w.heap.size, 2, none⟩ = some (.string ⟨t.toArray⟩) ∧ w'.cell? ⟨(w.heap.size + 1), 0, none⟩ = some (.int .i64 k') ∧ w'.cell? ⟨(w.heap.size + 1), 1, none⟩ = some (.int .i64 i') ∧ w'.cell? ⟨(w.heap.size + 1), 2, none⟩ = some (.string ⟨t'.toArray⟩)) := fun w' h => ⟨h, (hB1.below h.below hB1.lt).cell 0, (hB1.below h.below hB1.lt).cell 1, (hB1.below h.below hB1.lt).cell 2, (hB2.below h.below hB2.lt).cell 0, (hB2.below h.below hB2.lt).cell 1, (hB2.below h.below hB2.lt).cell 2⟩
  have hS0 := hkeep.out w2.drew (Grown.refl _).drew
  refine wp_region_held_drew (S := fun w' => Grown w2 w' ∧ w'.cell? ⟨w.heap.size, 0, none⟩ = some (.int .i64 k) ∧ w'.cell? ⟨w.heap.size, 1, none⟩ = some (.int .i64 i) ∧ w'.cell? ⟨w.heap.size, 2, none⟩ = some (.string ⟨t.toArray⟩) ∧ w'.cell? ⟨(w.heap.size + 1), 0, none⟩ = some (.int .i64 k') ∧ w'.cell? ⟨(w.heap.size + 1), 1, none⟩ = some (.int .i64 i') ∧ w'.cell? ⟨(w.heap.size + 1), 2, none⟩ = some (.string ⟨t'.toArray⟩)) (by kernel_rfl) hS0 (fun _ => ?_)
  refine wpAnyH_yes (i := 0) (d := 5) (v := ?_) rfl rfl (by kernel_rfl) (by kernel_rfl) (by kernel_rfl) (fun _ _ _ h => h) (by rfl) ?_ hS0 ?_
  rotate_left
  · intro w' hSw; go_simp <;> with_reducible rfl
  simp only [Act.put, List.setIfInBounds_toArray, List.set_cons_zero, List.set_cons_succ]
  refine wpAnyH_yes (i := 1) (d := 6) (v := ?_) rfl rfl (by kernel_rfl) (by kernel_rfl) (by kernel_rfl) (fun _ _ _ h => h) (by rfl) ?_ hS0 ?_
  rotate_left
  · intro w' hSw; go_simp <;> with_reducible rfl
  simp only [Act.put, List.setIfInBounds_toArray, List.set_cons_zero, List.set_cons_succ]
  refine wpAnyH_yes (i := 2) (d := 7) (v := ?_) rfl rfl (by kernel_rfl) (by kernel_rfl) (by kernel_rfl) (fun _ _ _ h => h) (by rfl) ?_ hS0 ?_
  rotate_left
  · intro w' hSw; go_simp <;> with_reducible rfl
  simp only [Act.put, List.setIfInBounds_toArray, List.set_cons_zero, List.set_cons_succ]
  refine wpAnyH_yes (i := 3) (d := 8) (v := ?_) rfl rfl (by kernel_rfl) (by kernel_rfl) (by kernel_rfl) (fun _ _ _ h => h) (by rfl) ?_ hS0 ?_
  rotate_left
  · intro w' hSw; go_simp <;> with_reducible rfl
  simp only [Act.put, List.setIfInBounds_toArray, List.set_cons_zero, List.set_cons_succ]
  refine wpAnyH_yes (i := 5) (d := 10) (v := ?_) rfl rfl (by kernel_rfl) (by kernel_rfl) (by kernel_rfl) (fun _ _ _ h => h) (by rfl) ?_ hS0 ?_
  rotate_left
  · intro w' hSw; go_simp <;> with_reducible rfl
  simp only [Act.put, List.setIfInBounds_toArray, List.set_cons_zero, List.set_cons_succ]
  refine wpAnyH_yes (i := 6) (d := 11) (v := ?_) rfl rfl (by kernel_rfl) (by kernel_rfl) (by kernel_rfl) (fun _ _ _ h => h) (by rfl) ?_ hS0 ?_
  rotate_left
  · intro w' hSw; go_simp <;> with_reducible rfl
  simp only [Act.put, List.setIfInBounds_toArray, List.set_cons_zero, List.set_cons_succ]
  refine wpAnyH_yes (i := 7) (d := 12) (v := ?_) rfl rfl (by kernel_rfl) (by kernel_rfl) (by kernel_rfl) (fun _ _ _ h => h) (by rfl) ?_ hS0 ?_
  rotate_left
  · intro w' hSw; go_simp <;> with_reducible rfl
  simp only [Act.put, List.setIfInBounds_toArray, List.set_cons_zero, List.set_cons_succ]
  refine wpAnyH_yes (i := 8) (d := 13) (v := ?_) rfl rfl (by kernel_rfl) (by kernel_rfl) (by kernel_rfl) (fun _ _ _ h => h) (by rfl) ?_ hS0 ?_
  rotate_left
  · intro w' hSw; go_simp <;> with_reducible rfl
  simp only [Act.put, List.setIfInBounds_toArray, List.set_cons_zero, List.set_cons_succ]
  refine wpAnyH_yes (i := 10) (d := 15) (v := ?_) rfl rfl (by kernel_rfl) (by kernel_rfl) (by kernel_rfl) (fun _ _ _ h => h) (by rfl) ?_ hS0 ?_
  rotate_left
  · intro w' hSw; go_simp <;> with_reducible rfl
  simp only [Act.put, List.setIfInBounds_toArray, List.set_cons_zero, List.set_cons_succ]
  refine wpAnyH_yes (i := 11) (d := 16) (v := ?_) rfl rfl (by kernel_rfl) (by kernel_rfl) (by kernel_rfl) (fun _ _ _ h => h) (by rfl) ?_ hS0 ?_
  rotate_left
  · intro w' hSw; go_simp <;> with_reducible rfl
  simp only [Act.put, List.setIfInBounds_toArray, List.set_cons_zero, List.set_cons_succ]
  refine wpAnyH_yes (i := 12) (d := 17) (v := ?_) rfl rfl (by kernel_rfl) (by kernel_rfl) (by kernel_rfl) (fun _ _ _ h => h) (by rfl) ?_ hS0 ?_
  rotate_left
  · intro w' hSw; go_simp <;> with_reducible rfl
  simp only [Act.put, List.setIfInBounds_toArray, List.set_cons_zero, List.set_cons_succ]
  refine wpAnyH_yes (i := 13) (d := 18) (v := ?_) rfl rfl (by kernel_rfl) (by kernel_rfl) (by kernel_rfl) (fun _ _ _ h => h) (by rfl) ?_ hS0 ?_
  rotate_left
  · intro w' hSw; go_simp <;> with_reducible rfl
  simp only [Act.put, List.setIfInBounds_toArray, List.set_cons_zero, List.set_cons_succ]
  refine wpAnyH_one (i := 4) (by kernel_rfl) rfl (by rfl) (fun K hK1 => ?_)
  go_simp
  with_reducible refine (cmpInt_at k k' _).mono ?_
  rintro e w' ⟨rfl, rfl⟩
  go_wp2_with fail
  refine hK1.out _ _ hS0 ?_
  refine wpAnyH_one (i := 9) (by kernel_rfl) rfl (by rfl) (fun K hK2 => ?_)
  go_simp
  with_reducible refine (cmpInt_at i i' _).mono ?_
  rintro e w' ⟨rfl, rfl⟩
  go_wp2_with fail
  refine hK2.out _ _ hS0 ?_
  refine wpAnyH_one (i := 14) (by kernel_rfl) rfl (by rfl) (fun K hK3 => ?_)
  go_simp
  with_reducible refine (cmpText_at t t' _).mono ?_
  rintro e w' ⟨rfl, rfl⟩
  go_wp2_with fail
  refine hK3.out _ _ hS0 ?_
  refine wpAnyH_one (i := 15) (by kernel_rfl) rfl (by rfl) (fun K hKb => ?_)
  go_simp
  have hbn : Grown w2 (w2.alloc (.cells #[.int .i64 (Vals.cmpI k k'), .int .i64 (Vals.cmpI i i'), .int .i64 (Vals.cmpT t t')] 3)).drew := ((Grown.refl _).alloc _).drew
  have hBn : Blk (w2.alloc (.cells #[.int .i64 (Vals.cmpI k k'), .int .i64 (Vals.cmpI i i'), .int .i64 (Vals.cmpT t t')] 3)).drew w2.heap.size 3 #[.int .i64 (Vals.cmpI k k'), .int .i64 (Vals.cmpI i i'), .int .i64 (Vals.cmpT t t')] := Blk.new w2 _ _
  generalize (w2.alloc (.cells #[.int .i64 (Vals.cmpI k k'), .int .i64 (Vals.cmpI i i'), .int .i64 (Vals.cmpT t t')] 3)).drew = w3 at *
  have hS1 := hkeep.out w3 hbn
  refine hKb.out _ _ hS1 ?_
  refine wpAnyH_one (i := 16) (by kernel_rfl) rfl (by rfl) (fun K hK4 => ?_)
  go_simp
  with_reducible refine (or_at _ _ _ _ _ hBn).mono ?_
  rintro e w' ⟨rfl, rfl⟩
  go_wp2_with fail
  refine hK4.out _ _ hS1 ?_
  refine wpAnyH_yes (i := 17) (d := 4) (v := ?_) rfl rfl (by kernel_rfl) (by kernel_rfl) (by kernel_rfl) (fun _ _ _ h => h) (by rfl) ?_ hS1 ?_
  rotate_left
  · intro w' hSw; go_simp <;> with_reducible rfl
  simp only [Act.put, List.setIfInBounds_toArray, List.set_cons_zero, List.set_cons_succ]
  refine wpAnyH_done (by kernel_rfl) ?_ _
  go_wp2_with fail
  go_ret
  exact ⟨rfl, hb.trans hbn⟩
theorem compare_at (k i : Int) (t : List UInt8) (k' i' : Int) (t' : List UInt8) (w : World) :
    Calls Try.prog 65 #[.agg #[.int .i64 k, .int .i64 i, .string ⟨t.toArray⟩], .agg #[.int .i64 k', .int .i64 i', .string ⟨t'.toArray⟩]] w fun e w' => e = .returned (.int .i64 (Vals.cmp k i t k' i' t')) ∧ Below w.heap.size w w' :=
  (compare_gr k i t k' i' t' w).mono fun _ _ ⟨h, g⟩ => ⟨h, g.below⟩
theorem compare_is (k i : Int) (t : List UInt8) (k' i' : Int) (t' : List UInt8) (z : Int) (hz : Vals.cmp k i t k' i' t' = z) (w : World) :
    Calls Try.prog 65 #[.agg #[.int .i64 k, .int .i64 i, .string ⟨t.toArray⟩], .agg #[.int .i64 k', .int .i64 i', .string ⟨t'.toArray⟩]] w fun e w' => e = .returned (.int .i64 z) ∧ Below w.heap.size w w' := by
  subst hz; exact compare_at k i t k' i' t' w
end Go.Proofs.Ytckabmlilbkmbaa
namespace Go.Proofs.Ytckabmlilbkmbaa
open Go.RowKit
theorem cmp_lt1 (k i : Int) (t : List UInt8) (k' i' : Int) (t' : List UInt8) (h : k < k') : Vals.cmp k i t k' i' t' = -1 := by
  unfold Vals.cmp Vals.cmpI; simp [h]
theorem cmp_gt1 (k i : Int) (t : List UInt8) (k' i' : Int) (t' : List UInt8) (h : k' < k) : Vals.cmp k i t k' i' t' = 1 := by
  unfold Vals.cmp Vals.cmpI; simp [h, show ¬ k < k' by omega]
theorem cmp_lt2 (k i : Int) (t : List UInt8) (i' : Int) (t' : List UInt8) (h : i < i') : Vals.cmp k i t k i' t' = -1 := by
  unfold Vals.cmp Vals.cmpI; simp [h]
theorem cmp_gt2 (k i : Int) (t : List UInt8) (i' : Int) (t' : List UInt8) (h : i' < i) : Vals.cmp k i t k i' t' = 1 := by
  unfold Vals.cmp Vals.cmpI; simp [h, show ¬ i < i' by omega]
theorem cmp_eq2 (k i : Int) (t : List UInt8) (t' : List UInt8) : Vals.cmp k i t k i t' = Vals.cmpT t t' := by
  unfold Vals.cmp Vals.cmpI; simp
end Go.Proofs.Ytckabmlilbkmbaa
namespace Go.Proofs.Ytckabmlilbkmbaa
open Go.RowKit Go.Sort Ev
/-- What Get tells. -/
def gotV : Option At → Value
  | some a => .tuple #[.agg #[.int .i64 a.k, .int .i64 a.i, .string ⟨a.t.toArray⟩], .bool true]
  | none => .tuple #[.agg #[.int .i64 0, .int .i64 0, .string ⟨#[]⟩], .bool false]
theorem ret_got {r s : Option At} (h : r = s) : Ending.returned (gotV r) = .returned (gotV s) := by rw [h]
theorem take_ne {es : List At} {s : List UInt8} {k : Nat} (h : ∀ j (hj : j < es.length), j < k → es[j].n ≠ s) (hk : ∀ (hj : k < es.length), es[k].n ≠ s) : ∀ j (hj : j < es.length), j < k + 1 → es[j].n ≠ s := by
  intro j hj hlt
  rcases Nat.lt_or_ge j k with h1 | h1
  · exact h j hj h1
  · obtain rfl : j = k := by omega
    exact hk hj
set_option maxRecDepth 100000 in
set_option maxHeartbeats 1000000 in
theorem get_at (A : Option Addr) (es : List At) (n c : Nat) (hn : es.length = n) (hm : n ≤ maxLen) (s : List UInt8) (w : World) (hr : RdA w A es) :
    Calls Try.prog 45 #[.slice A n c, .string ⟨s.toArray⟩] w fun e w' => e = .returned (gotV (find es s)) ∧ Below w.heap.size w w' := by
  have HN := Lib.hid hn
  rw [maxLen_num] at hm
  clear hn
  have hB0 := Blk.new w 45 #[.int .i64 0, .int .i64 0, .string ⟨#[]⟩]
  have hb0 : Below w.heap.size w (w.alloc (.cells #[.int .i64 0, .int .i64 0, .string ⟨#[]⟩] 45)) := (Below.refl _ _).alloc (Nat.le_refl _) _
  go_enter Try.func45, Try.ntmps45
  go_wp2_with fail
  go_loopw [10] (fun i wr => ∃ k : Nat, k ≤ n ∧ i = .int .i64 (k : Int) ∧ Hid (Below w.heap.size w wr) ∧ Hid (Blk wr w.heap.size 45 #[.int .i64 0, .int .i64 0, .string ⟨#[]⟩]) ∧ Hid (∀ j (hj : j < es.length), j < k → es[j].n ≠ s)) (fun i _ => n - (intOf i).toNat)
  case atStart => exact ⟨0, by omega, rfl, hb0, hB0, fun j hj h => absurd h (by omega)⟩
  case round =>
    obtain ⟨k, hk, rfl, HB, HZ, HA⟩ := hrel
    clear hB0 hb0
    by_cases hlt : k < n
    · have hk' : k < es.length := by rw [HN.out]; exact hlt
      obtain ⟨g, off, rfl, hg, hC⟩ := (hr.below HB.out).at_ hk'
      obtain ⟨z, hz⟩ : ∃ z, es[k] = z := ⟨_, rfl⟩
      have HE := Lib.hid hz
      rw [hz] at hC
      clear hz hr
      obtain ⟨zn, zk, zi, zt⟩ := z
      obtain ⟨c0, c1, c2, c3⟩ := hC
      obtain ⟨d0, d1, d2, f0, f1, f2⟩ := blk3 HZ.out
      have hb1 := Lib.hid (HB.out.alloc HB.out.size (.cells #[.string ⟨zn.toArray⟩, .int .i64 zk, .int .i64 zi, .string ⟨zt.toArray⟩] 62))
      have hz1 := Lib.hid (HZ.out.alloc (.cells #[.string ⟨zn.toArray⟩, .int .i64 zk, .int .i64 zi, .string ⟨zt.toArray⟩] 62))
      have hne : w.heap.size < wr.heap.size := HZ.out.lt
      by_cases he : zn = s
      · have HF : Hid (find es s = some ⟨zn, zk, zi, zt⟩) := by
          show _ = _
          rw [← HE.out]
          exact find_at k hk' (fun j hj => HA.out j (by omega) hj) (by rw [HE.out]; exact he)
        have hd : (zn == s) = true := by simpa using he
        clear HA he
        go_wp2_with fail
        have hR := (((HZ.out.put 0 (.int .i64 zk)).put 1 (.int .i64 zi)).put 2 (.string ⟨zt.toArray⟩)).alloc (.cells #[.string ⟨zn.toArray⟩, .int .i64 zk, .int .i64 zi, .string ⟨zt.toArray⟩] 62)
        have hb4 := (((HB.out.setCell (p := ⟨w.heap.size, 0, none⟩) (Nat.le_refl _) (.int .i64 zk)).setCell (p := ⟨w.heap.size, 1, none⟩) (Nat.le_refl _) (.int .i64 zi)).setCell (p := ⟨w.heap.size, 2, none⟩) (Nat.le_refl _) (.string ⟨zt.toArray⟩)).alloc (by simp; omega) (.cells #[.string ⟨zn.toArray⟩, .int .i64 zk, .int .i64 zi, .string ⟨zt.toArray⟩] 62)
        generalize (((wr.setCell ⟨w.heap.size, 0, none⟩ (.int .i64 zk)).setCell ⟨w.heap.size, 1, none⟩ (.int .i64 zi)).setCell ⟨w.heap.size, 2, none⟩ (.string ⟨zt.toArray⟩)).alloc (.cells #[.string ⟨zn.toArray⟩, .int .i64 zk, .int .i64 zi, .string ⟨zt.toArray⟩] 62) = w4 at *
        have r0 : w4.cell? ⟨w.heap.size, 0, none⟩ = some (.int .i64 zk) := hR.cell 0
        have r1 : w4.cell? ⟨w.heap.size, 1, none⟩ = some (.int .i64 zi) := hR.cell 1
        have r2 : w4.cell? ⟨w.heap.size, 2, none⟩ = some (.string ⟨zt.toArray⟩) := hR.cell 2
        refine bodyPost_ret (v := .tuple #[.agg #[.int .i64 zk, .int .i64 zi, .string ⟨zt.toArray⟩], .bool true]) (by simp [results, Try.results45, go_sem, r0, r1, r2]) rfl ?_
        exact ⟨(ret_got HF.out).symm, hb4⟩
      · have HA2 : Hid (∀ j (hj : j < es.length), j < k + 1 → es[j].n ≠ s) := take_ne HA.out fun _ => by rw [HE.out]; exact he
        have hd : (zn == s) = false := by simpa using he
        clear HA he d0 d1 d2 f0 f1 f2
        go_wp2_with fail
        go_roundw
        case rel => exact ⟨k + 1, by omega, by go_num, hb1, hz1, HA2⟩
        case measure => simp [intOf]; omega
    · have HF : Hid (find es s = none) := find_none fun a ha => by
        obtain ⟨j, hj, rfl⟩ := List.getElem_of_mem ha
        exact HA.out j hj (by rw [HN.out] at hj; omega)
      obtain ⟨d0, d1, d2, f0, f1, f2⟩ := blk3 HZ.out
      clear HA
      go_wp2_with fail
      refine bodyPost_ret (v := .tuple #[.agg #[.int .i64 0, .int .i64 0, .string ⟨#[]⟩], .bool false]) (by simp [results, Try.results45, go_sem, d0, d1, d2]) rfl ?_
      exact ⟨(ret_got HF.out).symm, ((HB.out.setCell (Nat.le_refl _) _).setCell (Nat.le_refl _) _).setCell (Nat.le_refl _) _⟩
end Go.Proofs.Ytckabmlilbkmbaa
namespace Go.Proofs.Ytckabmlilbkmbaa
open Go.RowKit Go.Sort Ev
theorem Cells.grow4 {w : World} {g o : Nat} {a : At} (h : Cells w g o a) (hg : g < w.heap.size) (n : Nat) (os : Array Obj) :
    (grow (w.drewN n) os).cell? ⟨g, o, none⟩ = some (.string ⟨a.n.toArray⟩) ∧ (grow (w.drewN n) os).cell? ⟨g, o + 1, none⟩ = some (.int .i64 a.k) ∧ (grow (w.drewN n) os).cell? ⟨g, o + 2, none⟩ = some (.int .i64 a.i) ∧ (grow (w.drewN n) os).cell? ⟨g, o + 3, none⟩ = some (.string ⟨a.t.toArray⟩) :=
  ⟨cell_grown (a := ⟨g, o, none⟩) hg h.1 n os, cell_grown (a := ⟨g, o + 1, none⟩) hg h.2.1 n os, cell_grown (a := ⟨g, o + 2, none⟩) hg h.2.2.1 n os, cell_grown (a := ⟨g, o + 3, none⟩) hg h.2.2.2 n os⟩
theorem take_fine {es : List At} {k : Nat} (h : ∀ j, j < k → Fine es j) (hk : Fine es k) : ∀ j, j < k + 1 → Fine es j := by
  intro j hj
  rcases Nat.lt_or_ge j k with h1 | h1
  · exact h j h1
  · obtain rfl : j = k := by omega
    exact hk
theorem right_yes {es : List At} (h1 : es.length ≤ 24) (h : ∀ j, j < es.length → Fine es j) : decide (Right es) = true := by
  refine decide_eq_true ((right_iff es).2 ⟨h1, fun k hk => h k hk hk⟩)
theorem right_no {es : List At} (h1 : 24 < es.length) : decide (Right es) = false := decide_eq_false fun h => by have := h.1; omega
theorem right_not {es : List At} {k : Nat} (h : ¬ Fine es k) : decide (Right es) = false := decide_eq_false fun hR => h (((right_iff es).1 hR).2 k)
set_option maxRecDepth 100000 in
set_option maxHeartbeats 1000000 in
theorem eright_at (A : Option Addr) (es : List At) (n c : Nat) (hn : es.length = n) (hm : n ≤ maxLen) (hb : ∀ a ∈ es, a.n.length ≤ maxLen ∧ a.t.length ≤ maxLen) (w : World) (hr : RdA w A es) :
    Calls Try.prog 23 #[.slice A n c] w fun e w' => e = .returned (.bool (decide (Right es))) ∧ Grown w w' := by
  have HN := Lib.hid hn
  rw [maxLen_num] at hm
  simp only [maxLen_num] at hb
  clear hn
  by_cases h24 : n ≤ 24
  · go_enter Try.func23, Try.ntmps23
    have q24 : decide ((24 : Int) < (n : Int)) = false := by simp; omega
    go_wp2_with fail
    clear q24
    go_loopw [10] (fun i wr => ∃ k : Nat, k ≤ n ∧ i = .int .i64 (k : Int) ∧ Hid (Grown w wr) ∧ Hid (∀ j, j < k → Fine es j)) (fun i _ => n - (intOf i).toNat)
    case atStart => exact ⟨0, by omega, rfl, Grown.refl w, fun j hj => absurd hj (by omega)⟩
    case round =>
      obtain ⟨k, hk, rfl, HG, HA⟩ := hrel
      by_cases hlt : k < n
      · have hk' : k < es.length := by rw [HN.out]; exact hlt
        obtain ⟨g, off, rfl, hg, hC⟩ := (hr.below HG.out.below).at_ hk'
        obtain ⟨b1, b2⟩ := hb _ (List.getElem_mem hk')
        have hP : 0 < k → ∃ p, Hid (es[k - 1]'(by omega) = p) ∧ Cells wr g (off + (k - 1) * 4) p := fun h0 => by
          obtain ⟨g', off', e, _, hC'⟩ := (hr.below HG.out.below).at_ (k := k - 1) (by omega)
          cases e
          exact ⟨_, rfl, hC'⟩
        obtain ⟨z, hz⟩ : ∃ z, es[k] = z := ⟨_, rfl⟩
        have HZ := Lib.hid hz
        rw [hz] at hC b1 b2
        clear hz
        obtain ⟨zn, zk, zi, zt⟩ := z
        obtain ⟨c0, c1, c2, c3⟩ := hC
        clear hr hb
        go_wp2_with fail
        have hB := Blk.new wr 62 #[.string ⟨zn.toArray⟩, .int .i64 zk, .int .i64 zi, .string ⟨zt.toArray⟩]
        have HG2 := Lib.hid (HG.out.alloc (.cells #[.string ⟨zn.toArray⟩, .int .i64 zk, .int .i64 zi, .string ⟨zt.toArray⟩] 62))
        have hP2 : 0 < k → ∃ p, Hid (es[k - 1]'(by omega) = p) ∧ Cells (wr.alloc (.cells #[.string ⟨zn.toArray⟩, .int .i64 zk, .int .i64 zi, .string ⟨zt.toArray⟩] 62)) g (off + (k - 1) * 4) p := fun h0 => by
          obtain ⟨p, e, hc⟩ := hP h0
          exact ⟨p, e, hc.below ((Below.refl _ _).alloc (Nat.le_refl _) _) hg⟩
        have hg2 : g < (wr.alloc (.cells #[.string ⟨zn.toArray⟩, .int .i64 zk, .int .i64 zi, .string ⟨zt.toArray⟩] 62)).heap.size := by simp; omega
        generalize wr.alloc (.cells #[.string ⟨zn.toArray⟩, .int .i64 zk, .int .i64 zi, .string ⟨zt.toArray⟩] 62) = w1 at *
        clear hP c0 c1 c2 c3 HG
        obtain ⟨G, hG⟩ : ∃ G, wr.heap.size = G := ⟨_, rfl⟩
        rw [hG] at hB ⊢
        clear hG
        have d0 := fun n os => cell_grown (w := w1) (a := ⟨G, 0, none⟩) hB.lt (hB.cell 0) n os
        have d1 := fun n os => cell_grown (w := w1) (a := ⟨G, 1, none⟩) hB.lt (hB.cell 1) n os
        have d2 := fun n os => cell_grown (w := w1) (a := ⟨G, 2, none⟩) hB.lt (hB.cell 2) n os
        have d3 := fun n os => cell_grown (w := w1) (a := ⟨G, 3, none⟩) hB.lt (hB.cell 3) n os
        simp at d0 d1 d2 d3
        have hcall : ∀ n' os', Calls Try.prog 32 #[.agg #[.string ⟨zn.toArray⟩, .int .i64 zk, .int .i64 zi, .string ⟨zt.toArray⟩]] (grow (w1.drewN n') os') fun e w' => e = .returned (.bool (ok ⟨zn, zk, zi, zt⟩)) ∧ ∃ q os'', w' = grow ((grow (w1.drewN n') os').drewN q) os'' := fun n' os' => rightAttr_at zn zk zi zt _ b1 b2
        cases hok : ok ⟨zn, zk, zi, zt⟩ with
        | false =>
          have HF : Hid (decide (Right es) = false) := right_not (k := k) fun h => by
            have := (h hk').1; rw [HZ.out, hok] at this; cases this
          rw [hok] at hcall
          clear hP2 hok
          (refine hq_region mixedT (by kernel_rfl) ?_; (repeat (refine hq_step (fun K hK => ?_); go_simp; first | (refine hK _ ?_; clear hK K) | (apply Exists.intro; refine ⟨fun _ => ?_, hK _ ?_⟩; (go_at_call 32; refine Calls.grown_of (hcall _ _)); clear hK K))); refine hq_nil ?_; intro _ hw'; obtain ⟨⟨nq, osq⟩, hw''⟩ := hw'; subst hw'')
          go_wp2_with fail
          go_ret
          exact ⟨ret_bool HF.out.symm, HG2.out.more _ _⟩
        | true =>
          rw [hok] at hcall
          by_cases h0 : k = 0
          · subst h0
            have HA2 : Hid (∀ j, j < 0 + 1 → Fine es j) := take_fine HA.out fun h => ⟨by rw [HZ.out]; exact hok, fun h => absurd h (by omega)⟩
            clear hP2 hok HA
            (refine hq_region mixedT (by kernel_rfl) ?_; (repeat (refine hq_step (fun K hK => ?_); go_simp; first | (refine hK _ ?_; clear hK K) | (apply Exists.intro; refine ⟨fun _ => ?_, hK _ ?_⟩; (go_at_call 32; refine Calls.grown_of (hcall _ _)); clear hK K))); refine hq_nil ?_; intro _ hw'; obtain ⟨⟨nq, osq⟩, hw''⟩ := hw'; subst hw'')
            go_wp2_with fail
            go_roundw
            case rel => exact ⟨0 + 1, by omega, by go_num, HG2.out.more _ _, HA2⟩
            case measure => simp [intOf]; omega
          · obtain ⟨q, rfl⟩ : ∃ q, k = q + 1 := ⟨k - 1, by omega⟩
            obtain ⟨p, HP, hCp⟩ := hP2 (by omega)
            replace hCp : Cells w1 g (off + q * 4) p := hCp
            replace HP : Hid (es[q]'(by omega) = p) := HP
            clear hP2
            have hp0 := fun n os => (hCp.grow4 hg2 n os).1
            obtain ⟨pn, pk, pi, pt⟩ := p
            simp only at hp0
            clear hCp
            have hwq : IntKind.i64.wrap (q : Int) = (q : Int) := by rw [IntKind.wrap_i64]; omega
            have hq0 : (0 : Int) ≤ (q : Int) := by omega
            have hq1 : (q : Int) < (n : Int) := by omega
            have hq2 : q < n := by omega
            cases hl : Op.bytesLess pn zn with
            | true =>
              have HA2 : Hid (∀ j, j < q + 1 + 1 → Fine es j) := take_fine HA.out fun h => ⟨by rw [HZ.out]; exact hok, fun _ => by rw [HZ.out]; show lt (es[q]'(by omega)) _; rw [HP.out]; exact hl⟩
              clear hok HA
              (refine hq_region mixedT (by kernel_rfl) ?_; (repeat (refine hq_step (fun K hK => ?_); go_simp; first | (refine hK _ ?_; clear hK K) | (apply Exists.intro; refine ⟨fun _ => ?_, hK _ ?_⟩; (go_at_call 32; refine Calls.grown_of (hcall _ _)); clear hK K))); refine hq_nil ?_; intro _ hw'; obtain ⟨⟨nq, osq⟩, hw''⟩ := hw'; subst hw'')
              go_wp2_with fail
              go_roundw
              case rel => exact ⟨q + 1 + 1, by omega, by go_num, HG2.out.more _ _, HA2⟩
              case measure => simp [intOf]; omega
            | false =>
              have HF : Hid (decide (Right es) = false) := right_not (k := q + 1) fun h => by
                have := (h hk').2 (by omega)
                rw [HZ.out] at this
                replace this : lt (es[q]'(by omega)) ⟨zn, zk, zi, zt⟩ := this
                rw [HP.out] at this
                unfold lt at this
                rw [hl] at this; cases this
              clear hok HA
              (refine hq_region mixedT (by kernel_rfl) ?_; (repeat (refine hq_step (fun K hK => ?_); go_simp; first | (refine hK _ ?_; clear hK K) | (apply Exists.intro; refine ⟨fun _ => ?_, hK _ ?_⟩; (go_at_call 32; refine Calls.grown_of (hcall _ _)); clear hK K))); refine hq_nil ?_; intro _ hw'; obtain ⟨⟨nq, osq⟩, hw''⟩ := hw'; subst hw'')
              go_wp2_with fail
              go_ret
              exact ⟨ret_bool HF.out.symm, HG2.out.more _ _⟩
      · have HF : Hid (decide (Right es) = true) := right_yes (by rw [HN.out]; exact h24) (fun j hj => HA.out j (by rw [HN.out] at hj; omega))
        go_wp2_with fail
        go_ret
        exact ⟨ret_bool HF.out.symm, HG.out⟩
  · have HF : Hid (decide (Right es) = false) := right_no (by rw [HN.out]; omega)
    have q24 : decide ((24 : Int) < (n : Int)) = true := by simp; omega
    go_enter Try.func23, Try.ntmps23
    go_wp2_with fail
    go_ret
    exact ⟨ret_bool HF.out.symm, Grown.refl _⟩
end Go.Proofs.Ytckabmlilbkmbaa
