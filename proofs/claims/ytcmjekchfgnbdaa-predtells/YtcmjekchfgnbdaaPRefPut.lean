/- The document's own answer for layer 6: Put. -/
import Derived.Test.YtcmjekchfgnbdaaPRight
namespace Go.Proofs.Ytcmjekchfgnbdaa
open Go.RowKit
set_option maxRecDepth 100000 in
set_option maxHeartbeats 1600000 in
theorem rpput_wrong (A : Option Addr) (bs : List UInt8) (n cap : Nat) (nm : List UInt8) (o k i : Int) (t : List UInt8) (hn : bs.length = n) (hl : n + 400 ≤ 140737488355328) (hnm : nm.length ≤ 9223372036854775807) (ht : t.length ≤ 9223372036854775807) (w : World) (hr : Rd w A bs) (hw : Preds.right nm o k i t = false) :
    Calls Try.prog 17 #[.slice A n cap, .agg #[.string ⟨nm.toArray⟩, .int .i64 o, .int .i64 k, .int .i64 i, .string ⟨t.toArray⟩]] w (LaysR w bs n) := by
  have HW := Lib.hid hw
  clear hw
  obtain ⟨i0, hi0, hz0, hz1, hz2⟩ := info_parts byte_info
  have HN := Lib.hid hn
  clear hn
  obtain ⟨hP, hb0⟩ := box5 w 25 (.string ⟨nm.toArray⟩) (.int .i64 o) (.int .i64 k) (.int .i64 i) (.string ⟨t.toArray⟩)
  have hsz : (w.alloc (.cells #[.string ⟨nm.toArray⟩, .int .i64 o, .int .i64 k, .int .i64 i, .string ⟨t.toArray⟩] 25)).heap.size = w.heap.size + 1 := by simp
  have hr2 := (hr.below hb0).below ((Below.refl _ _).alloc (Nat.le_refl _) (.cells #[] 5))
  have hO0 := Own.empty (w.alloc (.cells #[.string ⟨nm.toArray⟩, .int .i64 o, .int .i64 k, .int .i64 i, .string ⟨t.toArray⟩] 25)) (w.heap.size + 1) 5 (Nat.le_of_eq hsz.symm)
  rw [hsz] at hO0
  have hbe : Below (w.heap.size + 1) (w.alloc (.cells #[.string ⟨nm.toArray⟩, .int .i64 o, .int .i64 k, .int .i64 i, .string ⟨t.toArray⟩] 25)) ((w.alloc (.cells #[.string ⟨nm.toArray⟩, .int .i64 o, .int .i64 k, .int .i64 i, .string ⟨t.toArray⟩] 25)).alloc (.cells #[] 5)) := (Below.refl _ _).alloc (Nat.le_of_eq hsz.symm) _
  go_enter Try.func17, Try.ntmps17
  go_wp2_with (at_builtin; refine wpList_append_rd rfl (.tmp 6) (.tmp 7) 27 rfl (w.heap.size + 1) 5 i0 Try.underlying27 hi0 hz0 hz1 hz2 _ [] (by rfl) hO0 A bs n cap (by rfl) hr2 HN.out (by simp; omega) (by simp) ?_; intro v1 w1 hO1 hb1' _ _; have hb1 := hb1' _ hbe; clear hb1'; have hP1 := hP.below hb1 (Nat.lt_succ_self _); obtain ⟨c0, c1, c2, c3, c4, _, _, _, _, _⟩ := blk5 hP1)
  rw [List.nil_append] at hO1
  have hbw : Below w.heap.size w w1 := hb0.trans (hb1.mono (Nat.le_succ _))
  have hs1 : w.heap.size + 1 ≤ w1.heap.size := by have := hb1.size; omega
  clear hO0 hr2 hbe hP hb0 hb1
  refine (rpright_is nm o k i t w1 hnm ht false HW.out).mono ?_
  rintro e w2 ⟨rfl, hb2⟩
  replace hO1 := hO1.below hb2
  obtain ⟨D, c, hv, hc, hr2⟩ := hO1.rd
  rw [HN.out] at hv
  subst hv
  clear c0 c1 c2 c3 c4
  go_wp2_with fail
  go_ret
  exact ⟨D, c, rfl, below_next hbw (Nat.le_refl _) hb2, hr2⟩
section
variable {P : Program} {md : Region.Mode} {ops : Array Oper} {Q : Exit → Act → World → Prop} {S : World → Prop}
/-- Two operations may come up. -/
theorem wpAnyH_two {i j : Nat} {oi oj : Oper} {fuel : Nat} {listed : Array Bool} {a : Act} {w : World} (hr : Region.ready md ops listed = [i, j]) (hi : ops.toList[i]? = some oi) (hj : ops.toList[j]? = some oj)
    (hw : Region.wanted oi (yielded ops a.tmps) = true) (hw' : Region.wanted oj (yielded ops a.tmps) = true)
    (h : ∀ K : Act → World → Prop, Hid (∀ a w, S w → wpAnyH P md ops Q S fuel (listed.setIfInBounds i true) a w → K a w) → Oper.wp P oi a w K Q)
    (h' : ∀ K : Act → World → Prop, Hid (∀ a w, S w → wpAnyH P md ops Q S fuel (listed.setIfInBounds j true) a w → K a w) → Oper.wp P oj a w K Q) : wpAnyH P md ops Q S (fuel + 1) listed a w := by
  refine wpAnyH_ready hr (by simp) (AllReadyH.cons (by simpa using hi) (fun K hK => ?_) (AllReadyH.cons (by simpa using hj) (fun K hK => ?_) AllReadyH.nil))
  · rw [if_pos hw]
    exact h K (fun a w hS hW => hK.out a w hS (fun _ => hW))
  · rw [if_pos hw']
    exact h' K (fun a w hS hW => hK.out a w hS (fun _ => hW))
end
set_option maxRecDepth 100000 in
set_option maxHeartbeats 1600000 in
theorem rpput_so (A : Option Addr) (bs : List UInt8) (n cap L1 L : Nat) (nm : List UInt8) (q : Nat) (k i : Int) (t : List UInt8) (hn : bs.length = n) (hL1 : n + (Wire.text nm).length + 1 = L1) (hq : q ≤ 8) (hL : L1 + (Vals.lay k i t).length = L) (hl : n + 400 ≤ 140737488355328) (hnl : nm.length ≤ 16) (h1 : -9223372036854775808 ≤ i) (h2 : i ≤ 9223372036854775807)
    (hnm : nm.length ≤ 9223372036854775807) (ht : t.length ≤ 9223372036854775807) (w : World) (hr : Rd w A bs) (hw : Preds.right nm (q : Int) k i t = true) :
    Calls Try.prog 17 #[.slice A n cap, .agg #[.string ⟨nm.toArray⟩, .int .i64 (q : Int), .int .i64 k, .int .i64 i, .string ⟨t.toArray⟩]] w (LaysR w (bs ++ (Wire.text nm ++ (Wire.put q ++ Vals.lay k i t))) L) := by
  have HW := Lib.hid hw
  have HL := Lib.hid hL
  have hl1 : L1 + 200 ≤ 140737488355328 := by
    have := Wire.put_len_le nm.length (by omega)
    have e : (Wire.text nm).length = (Wire.put nm.length).length + nm.length := by simp [Wire.text]
    omega
  have HL1 := Lib.hid hL1
  have HP := Lib.hid (Wire.put_lo q (by omega))
  have hqi : (q : Int) ≤ 255 := by omega
  have HB : Hid ((q : Int) = (((UInt8.ofNat q).toNat : Nat) : Int)) := byte_of q (by omega)
  have HX : Hid ((bs ++ Wire.text nm).length + 1 ≤ 140737488355328) := by show _ ≤ _; rw [List.length_append, hn]; omega
  have HY : Hid ((bs ++ Wire.text nm ++ Wire.put q).length = L1) := by show _ = _; rw [HP.out, List.length_append, List.length_append, hn]; simpa using hL1
  clear hw hL hL1 hq
  obtain ⟨i0, hi0, hz0, hz1, hz2⟩ := info_parts byte_info
  have HN := Lib.hid hn
  clear hn
  obtain ⟨hP, hb0⟩ := box5 w 25 (.string ⟨nm.toArray⟩) (.int .i64 (q : Int)) (.int .i64 k) (.int .i64 i) (.string ⟨t.toArray⟩)
  have hsz : (w.alloc (.cells #[.string ⟨nm.toArray⟩, .int .i64 (q : Int), .int .i64 k, .int .i64 i, .string ⟨t.toArray⟩] 25)).heap.size = w.heap.size + 1 := by simp
  have hr2 := (hr.below hb0).below ((Below.refl _ _).alloc (Nat.le_refl _) (.cells #[] 5))
  have hO0 := Own.empty (w.alloc (.cells #[.string ⟨nm.toArray⟩, .int .i64 (q : Int), .int .i64 k, .int .i64 i, .string ⟨t.toArray⟩] 25)) (w.heap.size + 1) 5 (Nat.le_of_eq hsz.symm)
  rw [hsz] at hO0
  have hbe : Below (w.heap.size + 1) (w.alloc (.cells #[.string ⟨nm.toArray⟩, .int .i64 (q : Int), .int .i64 k, .int .i64 i, .string ⟨t.toArray⟩] 25)) ((w.alloc (.cells #[.string ⟨nm.toArray⟩, .int .i64 (q : Int), .int .i64 k, .int .i64 i, .string ⟨t.toArray⟩] 25)).alloc (.cells #[] 5)) := (Below.refl _ _).alloc (Nat.le_of_eq hsz.symm) _
  go_enter Try.func17, Try.ntmps17
  go_wp2_with (at_builtin; refine wpList_append_rd rfl (.tmp 6) (.tmp 7) 27 rfl (w.heap.size + 1) 5 i0 Try.underlying27 hi0 hz0 hz1 hz2 _ [] (by rfl) hO0 A bs n cap (by rfl) hr2 HN.out (by simp; omega) (by simp) ?_; intro v1 w1 hO1 hb1' _ _; have hb1 := hb1' _ hbe; clear hb1'; have hP1 := hP.below hb1 (Nat.lt_succ_self _); obtain ⟨c0, c1, c2, c3, c4, _, _, _, _, _⟩ := blk5 hP1)
  rw [List.nil_append] at hO1
  have hbw : Below w.heap.size w w1 := hb0.trans (hb1.mono (Nat.le_succ _))
  have hs1 : w.heap.size + 1 ≤ w1.heap.size := by have := hb1.size; omega
  clear hO0 hr2 hbe hP hb0 hb1
  refine (rpright_is nm (q : Int) k i t w1 hnm ht true HW.out).mono ?_
  rintro e w2 ⟨rfl, hb2⟩
  replace hO1 := hO1.below hb2
  obtain ⟨D, c, hv, hc, hr2⟩ := hO1.rd
  rw [HN.out] at hv
  subst hv
  clear c0 c1 c2 c3 c4
  have hP2 := hP1.below hb2 hP1.lt
  have hb2w := below_next hbw (Nat.le_refl _) hb2
  clear hP1 hbw hs1 hb2 hO1 hr
  go_wp2_with fail
  have hkeep : Hid (∀ w', Below w2.heap.size w2 w' → Below w2.heap.size w2 w' ∧ w'.cell? ⟨w.heap.size, 0, none⟩ = some (.string ⟨nm.toArray⟩) ∧ w'.cell? ⟨w.heap.size, 1, none⟩ = some (.int .i64 (q : Int)) ∧ w'.cell? ⟨w.heap.size, 2, none⟩ = some (.int .i64 k) ∧ w'.cell? ⟨w.heap.size, 3, none⟩ = some (.int .i64 i) ∧ w'.cell? ⟨w.heap.size, 4, none⟩ = some (.string ⟨t.toArray⟩)) := fun w' h => ⟨h, (hP2.below h hP2.lt).cell 0, (hP2.below h hP2.lt).cell 1, (hP2.below h hP2.lt).cell 2, (hP2.below h hP2.lt).cell 3, (hP2.below h hP2.lt).cell 4⟩
  have hS0 := hkeep.out w2.drew (Below.refl _ _).drew
  refine wp_region_held_drew (S := fun w' => Below w2.heap.size w2 w' ∧ w'.cell? ⟨w.heap.size, 0, none⟩ = some (.string ⟨nm.toArray⟩) ∧ w'.cell? ⟨w.heap.size, 1, none⟩ = some (.int .i64 (q : Int)) ∧ w'.cell? ⟨w.heap.size, 2, none⟩ = some (.int .i64 k) ∧ w'.cell? ⟨w.heap.size, 3, none⟩ = some (.int .i64 i) ∧ w'.cell? ⟨w.heap.size, 4, none⟩ = some (.string ⟨t.toArray⟩)) (by kernel_rfl) hS0 (fun _ => ?_)
  refine wpAnyH_yes (i := 0) (d := 13) (v := ?_) rfl rfl (by kernel_rfl) (by kernel_rfl) (by kernel_rfl) (fun _ _ _ h => h) (by rfl) ?_ hS0 ?_
  rotate_left
  · intro w' hSw; go_simp <;> with_reducible rfl
  simp only [Act.put, List.setIfInBounds_toArray, List.set_cons_zero, List.set_cons_succ]
  refine wpAnyH_yes (i := 1) (d := 14) (v := ?_) rfl rfl (by kernel_rfl) (by kernel_rfl) (by kernel_rfl) (fun _ _ _ h => h) (by rfl) ?_ hS0 ?_
  rotate_left
  · intro w' hSw; go_simp <;> with_reducible rfl
  simp only [Act.put, List.setIfInBounds_toArray, List.set_cons_zero, List.set_cons_succ]
  refine wpAnyH_yes (i := 2) (d := 15) (v := ?_) rfl rfl (by kernel_rfl) (by kernel_rfl) (by kernel_rfl) (fun _ _ _ h => h) (by rfl) ?_ hS0 ?_
  rotate_left
  · intro w' hSw; go_simp <;> with_reducible rfl
  simp only [Act.put, List.setIfInBounds_toArray, List.set_cons_zero, List.set_cons_succ]
  refine wpAnyH_yes (i := 4) (d := 17) (v := ?_) rfl rfl (by kernel_rfl) (by kernel_rfl) (by kernel_rfl) (fun _ _ _ h => h) (by rfl) ?_ hS0 ?_
  rotate_left
  · intro w' hSw; go_simp <;> with_reducible rfl
  simp only [Act.put, List.setIfInBounds_toArray, List.set_cons_zero, List.set_cons_succ]
  refine wpAnyH_yes (i := 5) (d := 18) (v := ?_) rfl rfl (by kernel_rfl) (by kernel_rfl) (by kernel_rfl) (fun _ _ _ h => h) (by rfl) ?_ hS0 ?_
  rotate_left
  · intro w' hSw; go_simp <;> with_reducible rfl
  simp only [Act.put, List.setIfInBounds_toArray, List.set_cons_zero, List.set_cons_succ]
  refine wpAnyH_yes (i := 6) (d := 19) (v := .int .u8 (q : Int)) rfl rfl (by kernel_rfl) (by kernel_rfl) (by kernel_rfl) (fun _ _ _ h => h) (by rfl) ?_ hS0 ?_
  · intro w' hSw
    go_simp
    all_goals first | rfl | (rw [IntKind.wrap_u8]; omega)
  simp only [Act.put, List.setIfInBounds_toArray, List.set_cons_zero, List.set_cons_succ]
  refine wpAnyH_two (i := 3) (j := 7) (by kernel_rfl) rfl rfl (by rfl) (by rfl) (fun Ka hKa => ?_) (fun Kb hKb => ?_)
  · go_simp
    with_reducible refine (refPutText_own D bs nm n c nm.length HN.out rfl (by omega) _ (hr2.below hS0.1)).mono ?_
    rintro e w3 ⟨v3, rfl, hO3, hb3⟩
    have hS1 := hkeep.out _ (below_next hS0.1 (Nat.le_refl _) hb3)
    go_wp2_with fail
    refine hKa.out _ _ hS1 ?_
    refine wpAnyH_one (i := 7) (by kernel_rfl) rfl (by rfl) (fun K hKc => ?_)
    go_simp
    have hb4 : Below w3.heap.size w3 (w3.alloc (.cells #[.int .u8 (q : Int)] 5)) := (Below.refl _ _).alloc (Nat.le_refl _) _
    have hrx := rd_const w3 5 (0, 0) #[.int .u8 (q : Int)] [UInt8.ofNat q] (by rw [HB.out]; rfl)
    have hO4 := hO3.below hb4
    have hS2 := hkeep.out _ (below_next hS1.1 (Nat.le_refl _) hb4)
    have hbs : w2.heap.size ≤ (w3.alloc (.cells #[.int .u8 (q : Int)] 5)).heap.size := hS2.1.size
    refine hKc.out _ _ hS2 ?_
    refine wpAnyH_one (i := 8) (by kernel_rfl) rfl (by rfl) (fun K hKd => ?_)
    refine op_append_rd (.tmp 16) (.tmp 20) 27 rfl w2.heap.size 5 i0 Try.underlying27 hi0 hz0 hz1 hz2 v3 (bs ++ Wire.text nm) (by rfl) hO4 (some ⟨w3.heap.size, 0, none⟩) [UInt8.ofNat q] 1 1 (by rfl) hrx rfl HX.out hbs ?_
    intro v6 w6 hO6 hb6'
    have hb6 := hb6' w2 hS2.1
    rw [← HP.out] at hO6
    have hS3 := hkeep.out w6 hb6
    obtain ⟨D6, c6, hv6, hc6, hr6⟩ := hO6.rd
    rw [HY.out] at hv6
    subst hv6
    refine hKd.out _ _ hS3 ?_
    simp only [Act.put, List.setIfInBounds_toArray, List.set_cons_zero, List.set_cons_succ]
    refine wpAnyH_yes (i := 9) (d := 5) (v := ?_) rfl rfl (by kernel_rfl) (by kernel_rfl) (by kernel_rfl) (fun _ _ _ h => h) (by rfl) ?_ hS3 ?_
    rotate_left
    · intro w' hSw; go_simp <;> with_reducible rfl
    simp only [Act.put, List.setIfInBounds_toArray, List.set_cons_zero, List.set_cons_succ]
    refine wpAnyH_done (by kernel_rfl) ?_ _
    have hbl := below_next hb2w (Nat.le_refl _) hS3.1
    obtain ⟨_, c0, c1, c2, c3, c4⟩ := hS3
    go_wp2_with fail
    refine (rvput_at D6 (bs ++ Wire.text nm ++ Wire.put q) L1 c6 L k i t HY.out HL.out hl1 h1 h2 ht w6 hr6).mono ?_
    rintro e w7 ⟨D7, c7, rfl, hb7, hr7⟩
    rw [List.append_assoc, List.append_assoc] at hr7
    clear c0 c1 c2 c3 c4
    go_wp2_with fail
    go_ret
    exact ⟨D7, c7, rfl, below_next hbl (Nat.le_refl _) hb7, hr7⟩
  · go_simp
    have hbn : Below w2.heap.size w2 (w2.alloc (.cells #[.int .u8 (q : Int)] 5)).drew := ((Below.refl _ _).alloc (Nat.le_refl _) _).drew
    have hrx : Rd (w2.alloc (.cells #[.int .u8 (q : Int)] 5)).drew (some ⟨w2.heap.size, 0, none⟩) [UInt8.ofNat q] := rd_const w2 5 (0, 0) #[.int .u8 (q : Int)] [UInt8.ofNat q] (by rw [HB.out]; rfl)
    have hwl : w2.heap.size ≤ (w2.alloc (.cells #[.int .u8 (q : Int)] 5)).drew.heap.size := hbn.size
    generalize (w2.alloc (.cells #[.int .u8 (q : Int)] 5)).drew = w3 at *
    have hS1 := hkeep.out w3 hbn
    refine hKb.out _ _ hS1 ?_
    refine wpAnyH_one (i := 3) (by kernel_rfl) rfl (by rfl) (fun K hKc => ?_)
    go_simp
    with_reducible refine (refPutText_own D bs nm n c nm.length HN.out rfl (by omega) _ (hr2.below hS1.1)).mono ?_
    rintro e w4 ⟨v3, rfl, hO3, hb3⟩
    have hS2 := hkeep.out _ (below_next hS1.1 (Nat.le_refl _) hb3)
    go_wp2_with fail
    refine hKc.out _ _ hS2 ?_
    refine wpAnyH_one (i := 8) (by kernel_rfl) rfl (by rfl) (fun K hKd => ?_)
    refine op_append_rd (.tmp 16) (.tmp 20) 27 rfl w3.heap.size 5 i0 Try.underlying27 hi0 hz0 hz1 hz2 v3 (bs ++ Wire.text nm) (by rfl) hO3 (some ⟨w2.heap.size, 0, none⟩) [UInt8.ofNat q] 1 1 (by rfl) (hrx.below hb3) rfl HX.out hb3.size ?_
    intro v6 w6 hO6 hb6'
    have hb6 := below_next hS1.1 (Nat.le_refl _) (hb6' w3 hb3)
    rw [← HP.out] at hO6
    have hS3 := hkeep.out w6 hb6
    obtain ⟨D6, c6, hv6, hc6, hr6⟩ := hO6.rd
    rw [HY.out] at hv6
    subst hv6
    refine hKd.out _ _ hS3 ?_
    simp only [Act.put, List.setIfInBounds_toArray, List.set_cons_zero, List.set_cons_succ]
    refine wpAnyH_yes (i := 9) (d := 5) (v := ?_) rfl rfl (by kernel_rfl) (by kernel_rfl) (by kernel_rfl) (fun _ _ _ h => h) (by rfl) ?_ hS3 ?_
    rotate_left
    · intro w' hSw; go_simp <;> with_reducible rfl
    simp only [Act.put, List.setIfInBounds_toArray, List.set_cons_zero, List.set_cons_succ]
    refine wpAnyH_done (by kernel_rfl) ?_ _
    have hbl := below_next hb2w (Nat.le_refl _) hS3.1
    obtain ⟨_, c0, c1, c2, c3, c4⟩ := hS3
    go_wp2_with fail
    refine (rvput_at D6 (bs ++ Wire.text nm ++ Wire.put q) L1 c6 L k i t HY.out HL.out hl1 h1 h2 ht w6 hr6).mono ?_
    rintro e w7 ⟨D7, c7, rfl, hb7, hr7⟩
    rw [List.append_assoc, List.append_assoc] at hr7
    clear c0 c1 c2 c3 c4
    go_wp2_with fail
    go_ret
    exact ⟨D7, c7, rfl, below_next hbl (Nat.le_refl _) hb7, hr7⟩
theorem lay_zero : Vals.lay 0 0 [] = [] := rfl
theorem rpput_at (A : Option Addr) (bs : List UInt8) (n cap L : Nat) (nm : List UInt8) (o k i : Int) (t : List UInt8) (hn : bs.length = n) (hL : n + (Preds.lay nm o k i t).length = L) (hl : n + 400 ≤ 140737488355328) (h1 : -9223372036854775808 ≤ i) (h2 : i ≤ 9223372036854775807) (hnm : nm.length ≤ 9223372036854775807) (ht : t.length ≤ 9223372036854775807) (w : World) (hr : Rd w A bs) :
    Calls Try.prog 17 #[.slice A n cap, .agg #[.string ⟨nm.toArray⟩, .int .i64 o, .int .i64 k, .int .i64 i, .string ⟨t.toArray⟩]] w (LaysR w (bs ++ Preds.lay nm o k i t) L) := by
  cases h : Preds.right nm o k i t with
  | false =>
    have e : Preds.lay nm o k i t = [] := by unfold Preds.lay; rw [h]; rfl
    rw [e] at hL ⊢
    rw [List.append_nil]
    simp only [List.length_nil, Nat.add_zero] at hL
    subst hL
    exact rpput_wrong A bs n cap nm o k i t hn hl hnm ht w hr h
  | true =>
    obtain ⟨a1, a2, ha⟩ := Preds.right_parts h
    have ho : 0 ≤ o ∧ o ≤ 8 := by rcases Preds.asks_cases ha with ⟨rfl, _⟩ | ⟨_, b1, b2, _⟩ <;> omega
    obtain ⟨q, rfl⟩ := Int.eq_ofNat_of_zero_le ho.1
    have e : Preds.lay nm (q : Int) k i t = Wire.text nm ++ (Wire.put q ++ Vals.lay k i t) := by
      unfold Preds.lay
      rw [if_pos h]
      unfold Preds.bytes
      rw [Int.toNat_natCast]
      rcases Preds.asks_cases ha with ⟨h8, rfl, rfl, rfl⟩ | ⟨h8, _⟩
      · rw [if_pos h8, lay_zero]
      · rw [if_neg h8]
    rw [e] at hL ⊢
    have hp : (Wire.put q).length = 1 := by rw [Wire.put_lo q (by omega)]; rfl
    refine rpput_so A bs n cap (n + (Wire.text nm).length + 1) L nm q k i t hn rfl (by omega) ?_ hl a2 h1 h2 hnm ht w hr h
    rw [← hL]; simp only [List.length_append]; omega
end Go.Proofs.Ytcmjekchfgnbdaa
