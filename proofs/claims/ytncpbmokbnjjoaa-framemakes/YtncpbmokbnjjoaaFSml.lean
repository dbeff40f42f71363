/- The small case that each statement of layer 3 begins with. -/
import Derived.Test.YtncpbmokbnjjoaaFAll
import Derived.Test.YtncpbmokbnjjoaaFSame
import Derived.Test.YtncpbmokbnjjoaaRef
import Derived.Lib.SlBytesConst
namespace Go.Proofs.Ytncpbmokbnjjoaa
open Go.RowKit
theorem str_add (a b : List UInt8) : (⟨a.toArray⟩ : ByteArray) ++ ⟨b.toArray⟩ = ⟨(a ++ b).toArray⟩ := by
  apply ByteArray.ext; simp [ByteArray.data_append]
theorem rows_ab (w : World) (m : Nat × Nat) : RdL ((w.alloc (.cells #[.int .u8 97, .int .u8 98] 5 m)).alloc (.cells #[.slice (some ⟨w.heap.size, 0, none⟩) 2 2, .slice none 0 0] 22)) (some ⟨(w.alloc (.cells #[.int .u8 97, .int .u8 98] 5 m)).heap.size, 0, none⟩) [[97, 98], []] := by
  have h1 := rd_const w 5 m #[.int .u8 97, .int .u8 98] [97, 98] rfl
  generalize w.alloc (.cells #[.int .u8 97, .int .u8 98] 5 m) = W at *
  have hB := Blk.new W 22 #[.slice (some ⟨w.heap.size, 0, none⟩) 2 2, .slice none 0 0]
  refine ⟨[.slice (some ⟨w.heap.size, 0, none⟩) 2 2, .slice none 0 0], rfl, .inr ⟨_, 0, rfl, by simp, fun i hi => ?_⟩, fun i x hx => ?_⟩
  · rw [Nat.zero_add, hB.cell i]; simp at hi; match i, hi with
    | 0, _ => rfl
    | 1, _ => rfl
  · match i, hx with
    | 0, hx =>
      obtain rfl : [97, 98] = x := by simpa using hx
      exact ⟨_, 2, rfl, by decide, h1.below ((Below.refl _ _).alloc (Nat.le_refl _) _)⟩
    | 1, hx =>
      obtain rfl : [] = x := by simpa using hx
      exact ⟨_, 0, rfl, by decide, .inl rfl⟩
    | i + 2, hx => simp at hx
theorem ab_err : Frm.err (Frm.frame [97, 98] ++ [9]) = 0 := Frm.err_frame _ _ (by decide)
theorem ab_hd : Frm.hd (Frm.frame [97, 98] ++ [9]) = 2 := Frm.hd_frame _ _ (by decide)
theorem ab_body : Frm.body (Frm.frame [97, 98] ++ [9]) = [97, 98] := Frm.body_frame _ _ (by decide)
theorem ab_two : Frm.all (Frm.frame [97, 98] ++ Frm.frame []) = ([[97, 98], []], 22, 0) := by
  have := Frm.all_frame [97, 98] (Frm.frame []) (by decide)
  rw [this]
  have h2 := Frm.all_frame [] [] (by decide)
  rw [List.append_nil] at h2
  rw [h2, Frm.all_nil]; rfl
theorem ab_cut : Frm.all (Frm.frame [97, 98] ++ [9]) = ([[97, 98]], 12, 2) := by
  rw [Frm.all_frame _ _ (by decide), Frm.all_bad (by simp) (by decide +kernel)]
  rw [show Frm.err [9] = 2 by decide +kernel]; rfl
theorem ab_short : Frm.err ((Frm.frame [97, 98]).take 11) = 2 := Frm.err_cut _ (by decide) 11 (by rw [Frm.frame_length]; decide)
theorem frame_none : Frm.frame [] = [0, 0] ++ Crc.low (Crc.sum [0, 0]) ++ [0, 0, 0, 0] := by
  unfold Frm.frame Crc.shut
  rw [show Frm.two [].length = [0, 0] from rfl, show Crc.sum [] = 0 by decide +kernel]
  rfl
set_option maxRecDepth 100000 in
set_option maxHeartbeats 3200000 in
theorem small_any (w : World) :
    Calls Try.prog 8 #[] w fun e w' => e = .returned (.bool true) ∧ Below w.heap.size w w' := by
  have kc := fun (w : World) (C : Array Value) (n c : Nat) => Lib.run_convert_bytes_const (P := Try.prog) w 22 5 C n c Try.underlying22 Try.underlying5
  obtain ⟨i0, hi0, hz0, hz1, hz2⟩ := info_parts byte_info
  go_enter Try.func8, Try.ntmps8
  go_wp2_with fail
  have hr0 := rd_const w 5 (2, 3) #[.int .u8 97, .int .u8 98] [97, 98] rfl
  refine (make_at _ [97, 98] 2 12 2 rfl (by decide) rfl _ hr0).mono ?_
  rintro e w1 ⟨ga, rfl, hga, hb1, hBa⟩
  replace hb1 := below_alloc hb1
  clear hr0 hga
  go_wp2_with fail
  refine (make_at none [] 0 10 0 rfl (by decide) rfl _ (.inl rfl)).mono ?_
  rintro e w2 ⟨gz, rfl, hgz, hb2, hBz⟩
  replace hBa := hBa.below hb2 hBa.lt
  replace hb2 := below_next hb1 (Nat.le_refl _) hb2
  clear hb1 hgz
  have HA : Hid ((Frm.frame [97, 98]).length = 12) := Frm.frame_length _
  have HZ : Hid ((Frm.frame []).length = 10) := Frm.frame_length _
  have hra := fun o : Obj => hBa.rd.below ((Below.refl _ w2).alloc (Nat.le_refl _) o)
  go_wp2_with (first | (at_builtin; refine wpList_append_rd rfl (.tmp 28) (.tmp 29) 22 rfl w2.heap.size 5 i0 Try.underlying22 hi0 hz0 hz1 hz2 (.slice (some ⟨w2.heap.size, 0, none⟩) 0 0) [] (by rfl) (Own.empty _ _ _ (Nat.le_refl _)) (some ⟨ga, 0, none⟩) (Frm.frame [97, 98]) 12 12 (by rfl) (hra _) HA.out (by simp) (by simp) ?_; intro v3a w3a hO3a hb3a' _ _; have hb3a := hb3a' w2 ((Below.refl _ _).alloc (Nat.le_refl _) _); clear hb3a'; simp only [List.nil_append] at hO3a; clear hra) | (at_builtin; refine wpList_append_rd rfl (.tmp 30) (.tmp 31) 22 rfl w2.heap.size 5 i0 Try.underlying22 hi0 hz0 hz1 hz2 v3a (Frm.frame [97, 98]) (by rfl) (hO3a.below ((Below.refl _ _).alloc (Nat.le_refl _) _)) (some ⟨w3a.heap.size, 0, none⟩) [9] 1 1 (by rfl) (rd_const w3a 5 (0, 0) #[.int .u8 9] [9] rfl) rfl (by rw [HA.out]; decide) (by have := hb3a.size; simp; omega) ?_; intro v3 w3 hO3 hb3' _ _; have hb3 := hb3' w2 (hb3a.alloc hb3a.size _)))
  obtain ⟨A3, c3, rfl, hc3, hr3⟩ := hO3.rd
  have HL3 : Hid ((Frm.frame [97, 98] ++ [9]).length = 13) := by rw [Hid, List.length_append, Frm.frame_length]; rfl
  rw [HL3.out] at hc3 ⊢
  replace hBa := hBa.below hb3 hBa.lt
  replace hBz := hBz.below hb3 hBz.lt
  replace hb3 := below_next hb2 (Nat.le_refl _) hb3
  clear hb3' hb3a hO3 hO3a hb2
  refine (next_good _ (Frm.frame [97, 98] ++ [9]) 13 2 _ HL3.out hc3 (by decide) _ hr3 ab_err ab_hd).mono ?_
  rintro e w4 ⟨gx, rfl, hgx, hb4, hBx⟩
  rw [ab_body] at hBx
  replace hBa := hBa.below hb4 hBa.lt
  replace hBz := hBz.below hb4 hBz.lt
  replace hb4 := below_next hb3 (Nat.le_refl _) hb4
  clear hb3 hr3 hgx
  have hra := fun o : Obj => hBa.rd.below ((Below.refl _ w4).alloc (Nat.le_refl _) o)
  go_wp2_with (first | (at_builtin; refine wpList_append_rd rfl (.tmp 38) (.tmp 39) 22 rfl w4.heap.size 5 i0 Try.underlying22 hi0 hz0 hz1 hz2 (.slice (some ⟨w4.heap.size, 0, none⟩) 0 0) [] (by rfl) (Own.empty _ _ _ (Nat.le_refl _)) (some ⟨ga, 0, none⟩) (Frm.frame [97, 98]) 12 12 (by rfl) (hra _) HA.out (by simp) (by simp) ?_; intro v5a w5a hO5a hb5a' _ _; have hb5a := hb5a' w4 ((Below.refl _ _).alloc (Nat.le_refl _) _); clear hb5a'; simp only [List.nil_append] at hO5a; clear hra) | (at_builtin; refine wpList_append_rd rfl (.tmp 40) (.tmp 41) 22 rfl w4.heap.size 5 i0 Try.underlying22 hi0 hz0 hz1 hz2 v5a (Frm.frame [97, 98]) (by rfl) hO5a (some ⟨gz, 0, none⟩) (Frm.frame []) 10 10 (by rfl) (hBz.rd.below hb5a) HZ.out (by rw [HA.out]; decide) hb5a.size ?_; intro v5 w5 hO5 hb5' _ _; have hb5 := hb5' w4 hb5a))
  obtain ⟨A5, c5, rfl, hc5, hr5⟩ := hO5.rd
  have HL5 : Hid ((Frm.frame [97, 98] ++ Frm.frame []).length = 22) := by rw [Hid, List.length_append, Frm.frame_length]; rfl
  rw [HL5.out] at hc5 ⊢
  replace hBa := hBa.below hb5 hBa.lt
  replace hBz := hBz.below hb5 hBz.lt
  replace hBx := hBx.below hb5 hBx.lt
  replace hb5 := below_next hb4 (Nat.le_refl _) hb5
  clear hb5' hb5a hO5 hO5a hb4
  refine (all_at _ (Frm.frame [97, 98] ++ Frm.frame []) 22 2 22 0 _ _ HL5.out hc5 (by decide) (by decide) _ hr5 ab_two rfl).mono ?_
  rintro e w6 ⟨Bl, cl, rfl, _, hRl, hb6⟩
  replace hBa := hBa.below hb6 hBa.lt
  replace hBz := hBz.below hb6 hBz.lt
  replace hBx := hBx.below hb6 hBx.lt
  replace hb6 := below_next hb5 (Nat.le_refl _) hb6
  have hra := fun o : Obj => hBa.rd.below ((Below.refl _ w6).alloc (Nat.le_refl _) o)
  go_wp2_with (first | (at_builtin; refine wpList_append_rd rfl (.tmp 48) (.tmp 49) 22 rfl w6.heap.size 5 i0 Try.underlying22 hi0 hz0 hz1 hz2 (.slice (some ⟨w6.heap.size, 0, none⟩) 0 0) [] (by rfl) (Own.empty _ _ _ (Nat.le_refl _)) (some ⟨ga, 0, none⟩) (Frm.frame [97, 98]) 12 12 (by rfl) (hra _) HA.out (by simp) (by simp) ?_; intro v7a w7a hO7a hb7a' _ _; have hb7a := hb7a' w6 ((Below.refl _ _).alloc (Nat.le_refl _) _); clear hb7a'; simp only [List.nil_append] at hO7a; clear hra) | (at_builtin; refine wpList_append_rd rfl (.tmp 50) (.tmp 51) 22 rfl w6.heap.size 5 i0 Try.underlying22 hi0 hz0 hz1 hz2 v7a (Frm.frame [97, 98]) (by rfl) (hO7a.below ((Below.refl _ _).alloc (Nat.le_refl _) _)) (some ⟨w7a.heap.size, 0, none⟩) [9] 1 1 (by rfl) (rd_const w7a 5 (0, 0) #[.int .u8 9] [9] rfl) rfl (by rw [HA.out]; decide) (by have := hb7a.size; simp; omega) ?_; intro v7 w7 hO7 hb7' _ _; have hb7 := hb7' w6 (hb7a.alloc hb7a.size _)))
  obtain ⟨A7, c7, rfl, hc7, hr7⟩ := hO7.rd
  have HL7 : Hid ((Frm.frame [97, 98] ++ [9]).length = 13) := by rw [Hid, List.length_append, Frm.frame_length]; rfl
  rw [HL7.out] at hc7 ⊢
  replace hBa := hBa.below hb7 hBa.lt
  replace hBz := hBz.below hb7 hBz.lt
  replace hBx := hBx.below hb7 hBx.lt
  replace hRl := hRl.below hb7
  replace hb7 := below_next hb6 (Nat.le_refl _) hb7
  clear hb7' hb7a hO7 hO7a hb6
  refine (all_at _ (Frm.frame [97, 98] ++ [9]) 13 1 12 2 _ _ HL7.out hc7 (by decide) (by decide) _ hr7 ab_cut rfl).mono ?_
  rintro e w8 ⟨Bm, cm, rfl, _, hRm, hb8⟩
  replace hBa := hBa.below hb8 hBa.lt
  replace hBz := hBz.below hb8 hBz.lt
  replace hBx := hBx.below hb8 hBx.lt
  replace hRl := hRl.below hb8
  replace hb8 := below_next hb7 (Nat.le_refl _) hb8
  clear hb7 hRm hr7
  have HC : Hid (((Frm.frame [97, 98]).take 11).length = 11) := by rw [Hid, List.length_take, HA.out]; rfl
  go_wp2_with fail
  refine (next_bad _ ((Frm.frame [97, 98]).take 11) 11 2 _ HC.out (by decide) (by decide) _ (hBa.rd.take 11) ab_short (by decide)).mono ?_
  rintro e w9 ⟨rfl, hb9⟩
  replace hBz := hBz.below hb9 hBz.lt
  replace hBx := hBx.below hb9 hBx.lt
  replace hRl := hRl.below hb9
  replace hb9 := below_next hb8 (Nat.le_refl _) hb9
  clear hb8 hBa
  go_wp2_with fail
  have HZ2 : Hid (([0, 0] ++ Crc.low (Crc.sum [0, 0]) ++ [0, 0, 0, 0]).length = 10) := rfl
  rw [frame_none] at hBz
  have hkeep : Hid (∀ w', Below w9.heap.size w9 w' → Below w9.heap.size w9 w' ∧ Sem.run Try.prog (convert 22 9 (.slice (some ⟨gz, 0, none⟩) 10 10)) w' = .ok (.string ⟨([0, 0] ++ Crc.low (Crc.sum [0, 0]) ++ [0, 0, 0, 0]).toArray⟩) w' ∧ Sem.run Try.prog (convert 22 9 (.slice (some ⟨gx, 0, none⟩) 2 2)) w' = .ok (.string ⟨([97, 98]).toArray⟩) w') := fun w' h => ⟨h, str_below 10 hBz.rd HZ2.out h, str_below 2 hBx.rd rfl h⟩
  have hS0 := hkeep.out w9.drew (Below.refl _ _).drew
  refine wp_region_held_drew (S := fun w' => Below w9.heap.size w9 w' ∧ Sem.run Try.prog (convert 22 9 (.slice (some ⟨gz, 0, none⟩) 10 10)) w' = .ok (.string ⟨([0, 0] ++ Crc.low (Crc.sum [0, 0]) ++ [0, 0, 0, 0]).toArray⟩) w' ∧ Sem.run Try.prog (convert 22 9 (.slice (some ⟨gx, 0, none⟩) 2 2)) w' = .ok (.string ⟨([97, 98]).toArray⟩) w') (by kernel_rfl) hS0 (fun _ => ?_)
  refine wpAnyH_yes (i := 0) (d := 67) (v := ?_) rfl rfl (by kernel_rfl) (by kernel_rfl) (by kernel_rfl) (fun _ _ _ h => h) (by rfl) ?_ hS0 ?_
  rotate_left
  · intro w' hSw; go_simp <;> with_reducible rfl
  simp only [Act.put, List.setIfInBounds_toArray, List.set_cons_zero, List.set_cons_succ]
  refine wpAnyH_yes (i := 1) (d := 68) (v := ?_) rfl rfl (by kernel_rfl) (by kernel_rfl) (by kernel_rfl) (fun _ _ _ h => h) (by rfl) ?_ hS0 ?_
  rotate_left
  · intro w' hSw; go_simp <;> with_reducible rfl
  simp only [Act.put, List.setIfInBounds_toArray, List.set_cons_zero, List.set_cons_succ]
  refine wpAnyH_yes (i := 2) (d := 69) (v := ?_) rfl rfl (by kernel_rfl) (by kernel_rfl) (by kernel_rfl) (fun _ _ _ h => h) (by rfl) ?_ hS0 ?_
  rotate_left
  · intro w' hSw; go_simp <;> with_reducible rfl
  simp only [Act.put, List.setIfInBounds_toArray, List.set_cons_zero, List.set_cons_succ]
  refine wpAnyH_yes (i := 3) (d := 70) (v := ?_) rfl rfl (by kernel_rfl) (by kernel_rfl) (by kernel_rfl) (fun _ _ _ h => h) (by rfl) ?_ hS0 ?_
  rotate_left
  · intro w' hSw; go_simp <;> with_reducible rfl
  simp only [Act.put, List.setIfInBounds_toArray, List.set_cons_zero, List.set_cons_succ]
  refine wpAnyH_yes (i := 4) (d := 71) (v := ?_) rfl rfl (by kernel_rfl) (by kernel_rfl) (by kernel_rfl) (fun _ _ _ h => h) (by rfl) ?_ hS0 ?_
  rotate_left
  · intro w' hSw; go_simp <;> with_reducible rfl
  simp only [Act.put, List.setIfInBounds_toArray, List.set_cons_zero, List.set_cons_succ]
  refine wpAnyH_yes (i := 5) (d := 72) (v := ?_) rfl rfl (by kernel_rfl) (by kernel_rfl) (by kernel_rfl) (fun _ _ _ h => h) (by rfl) ?_ hS0 ?_
  rotate_left
  · intro w' hSw; go_simp <;> with_reducible rfl
  simp only [Act.put, List.setIfInBounds_toArray, List.set_cons_zero, List.set_cons_succ]
  refine wpAnyH_yes (i := 6) (d := 73) (v := ?_) rfl rfl (by kernel_rfl) (by kernel_rfl) (by kernel_rfl) (fun _ _ _ h => h) (by rfl) ?_ hS0 ?_
  rotate_left
  · intro w' hSw; go_simp <;> with_reducible rfl
  simp only [Act.put, List.setIfInBounds_toArray, List.set_cons_zero, List.set_cons_succ]
  refine wpAnyH_yes (i := 7) (d := 74) (v := ?_) rfl rfl (by kernel_rfl) (by kernel_rfl) (by kernel_rfl) (fun _ _ _ h => h) (by rfl) ?_ hS0 ?_
  rotate_left
  · intro w' hSw; go_simp <;> with_reducible rfl
  simp only [Act.put, List.setIfInBounds_toArray, List.set_cons_zero, List.set_cons_succ]
  refine wpAnyH_yes (i := 8) (d := 75) (v := ?_) rfl rfl (by kernel_rfl) (by kernel_rfl) (by kernel_rfl) (fun _ _ _ h => h) (by rfl) ?_ hS0 ?_
  rotate_left
  · intro w' hSw; go_simp <;> with_reducible rfl
  simp only [Act.put, List.setIfInBounds_toArray, List.set_cons_zero, List.set_cons_succ]
  refine wpAnyH_yes (i := 9) (d := 76) (v := ?_) rfl rfl (by kernel_rfl) (by kernel_rfl) (by kernel_rfl) (fun _ _ _ h => h) (by rfl) ?_ hS0 ?_
  rotate_left
  · intro w' hSw; go_simp <;> with_reducible rfl
  simp only [Act.put, List.setIfInBounds_toArray, List.set_cons_zero, List.set_cons_succ]
  refine wpAnyH_one (i := 10) (by kernel_rfl) rfl (by rfl) (fun K hK1 => ?_)
  go_simp
  have hS1 := hkeep.out (w9.alloc (.cells #[.int .u8 0, .int .u8 0] 5)).drew ((Below.refl _ _).alloc (Nat.le_refl _) _).drew
  have hr9 : Rd (w9.alloc (.cells #[.int .u8 0, .int .u8 0] 5)).drew (some ⟨w9.heap.size, 0, none⟩) [0, 0] := rd_const w9 5 (0, 0) #[.int .u8 0, .int .u8 0] [0, 0] rfl
  refine hK1.out _ _ hS1 ?_
  refine wpAnyH_one (i := 11) (by kernel_rfl) rfl (by rfl) (fun K hK2 => ?_)
  go_simp
  with_reducible refine (rsum_at _ [0, 0] 2 2 rfl (by decide) _ hr9).mono ?_
  rintro e w10 ⟨rfl, rfl⟩
  go_wp2_with fail
  refine hK2.out _ _ hS1 ?_
  refine wpAnyH_one (i := 12) (by kernel_rfl) rfl (by rfl) (fun K hK3 => ?_)
  go_simp
  with_reducible refine (rlow_any (Crc.sum [0, 0]) _).mono ?_
  rintro e w10 ⟨g10, rfl, hg10, hb10, hB10⟩
  have hS2 := hkeep.out w10 (below_next hS1.1 (Nat.le_refl _) hb10)
  have hst10 := str_below (n := 4) 4 hB10.rd rfl (Below.refl _ _)
  go_wp2_with fail
  refine hK3.out _ _ hS2 ?_
  refine wpAnyH_one (i := 13) (by kernel_rfl) rfl (by rfl) (fun K hK4 => ?_)
  go_simp
  refine hK4.out _ _ hS2 ?_
  refine wpAnyH_yes (i := 14) (d := 81) (v := .string ⟨([0, 0] ++ Crc.low (Crc.sum [0, 0])).toArray⟩) rfl rfl (by kernel_rfl) (by kernel_rfl) (by kernel_rfl) (fun _ _ _ h => h) (by rfl) ?_ hS2 ?_
  · intro w' hSw; go_simp; rw [if_neg (by rw [Crc.low_length]; decide)]; exact congrArg (fun z => Result.ok (Next.value (.string z)) w') (str_add [0, 0] (Crc.low (Crc.sum [0, 0])))
  simp only [Act.put, List.setIfInBounds_toArray, List.set_cons_zero, List.set_cons_succ]
  refine wpAnyH_yes (i := 15) (d := 82) (v := .string ⟨([0, 0] ++ Crc.low (Crc.sum [0, 0]) ++ [0, 0, 0, 0]).toArray⟩) rfl rfl (by kernel_rfl) (by kernel_rfl) (by kernel_rfl) (fun _ _ _ h => h) (by rfl) ?_ hS2 ?_
  · intro w' hSw; go_simp; rw [if_neg (by rw [Crc.low_length]; decide)]; exact congrArg (fun z => Result.ok (Next.value (.string z)) w') (str_add ([0, 0] ++ Crc.low (Crc.sum [0, 0])) [0, 0, 0, 0])
  simp only [Act.put, List.setIfInBounds_toArray, List.set_cons_zero, List.set_cons_succ]
  refine wpAnyH_yes (i := 16) (d := 83) (v := ?_) rfl rfl (by kernel_rfl) (by kernel_rfl) (by kernel_rfl) (fun _ _ _ h => h) (by rfl) ?_ hS2 ?_
  rotate_left
  · intro w' hSw; go_simp <;> with_reducible rfl
  simp only [Act.put, List.setIfInBounds_toArray, List.set_cons_zero, List.set_cons_succ]
  refine wpAnyH_yes (i := 17) (d := 84) (v := ?_) rfl rfl (by kernel_rfl) (by kernel_rfl) (by kernel_rfl) (fun _ _ _ h => h) (by rfl) ?_ hS2 ?_
  rotate_left
  · intro w' hSw; go_simp <;> with_reducible rfl
  simp only [Act.put, List.setIfInBounds_toArray, List.set_cons_zero, List.set_cons_succ]
  refine wpAnyH_yes (i := 18) (d := 85) (v := ?_) rfl rfl (by kernel_rfl) (by kernel_rfl) (by kernel_rfl) (fun _ _ _ h => h) (by rfl) ?_ hS2 ?_
  rotate_left
  · intro w' hSw; go_simp <;> with_reducible rfl
  simp only [Act.put, List.setIfInBounds_toArray, List.set_cons_zero, List.set_cons_succ]
  refine wpAnyH_yes (i := 19) (d := 86) (v := ?_) rfl rfl (by kernel_rfl) (by kernel_rfl) (by kernel_rfl) (fun _ _ _ h => h) (by rfl) ?_ hS2 ?_
  rotate_left
  · intro w' hSw; go_simp <;> with_reducible rfl
  simp only [Act.put, List.setIfInBounds_toArray, List.set_cons_zero, List.set_cons_succ]
  refine wpAnyH_yes (i := 20) (d := 87) (v := ?_) rfl rfl (by kernel_rfl) (by kernel_rfl) (by kernel_rfl) (fun _ _ _ h => h) (by rfl) ?_ hS2 ?_
  rotate_left
  · intro w' hSw; go_simp <;> with_reducible rfl
  simp only [Act.put, List.setIfInBounds_toArray, List.set_cons_zero, List.set_cons_succ]
  refine wpAnyH_yes (i := 21) (d := 88) (v := ?_) rfl rfl (by kernel_rfl) (by kernel_rfl) (by kernel_rfl) (fun _ _ _ h => h) (by rfl) ?_ hS2 ?_
  rotate_left
  · intro w' hSw; go_simp <;> with_reducible rfl
  simp only [Act.put, List.setIfInBounds_toArray, List.set_cons_zero, List.set_cons_succ]
  refine wpAnyH_yes (i := 22) (d := 89) (v := ?_) rfl rfl (by kernel_rfl) (by kernel_rfl) (by kernel_rfl) (fun _ _ _ h => h) (by rfl) ?_ hS2 ?_
  rotate_left
  · intro w' hSw; go_simp <;> with_reducible rfl
  simp only [Act.put, List.setIfInBounds_toArray, List.set_cons_zero, List.set_cons_succ]
  refine wpAnyH_yes (i := 23) (d := 90) (v := ?_) rfl rfl (by kernel_rfl) (by kernel_rfl) (by kernel_rfl) (fun _ _ _ h => h) (by rfl) ?_ hS2 ?_
  rotate_left
  · intro w' hSw; go_simp <;> with_reducible rfl
  simp only [Act.put, List.setIfInBounds_toArray, List.set_cons_zero, List.set_cons_succ]
  refine wpAnyH_yes (i := 24) (d := 91) (v := ?_) rfl rfl (by kernel_rfl) (by kernel_rfl) (by kernel_rfl) (fun _ _ _ h => h) (by rfl) ?_ hS2 ?_
  rotate_left
  · intro w' hSw; go_simp <;> with_reducible rfl
  simp only [Act.put, List.setIfInBounds_toArray, List.set_cons_zero, List.set_cons_succ]
  refine wpAnyH_yes (i := 25) (d := 92) (v := ?_) rfl rfl (by kernel_rfl) (by kernel_rfl) (by kernel_rfl) (fun _ _ _ h => h) (by rfl) ?_ hS2 ?_
  rotate_left
  · intro w' hSw; go_simp <;> with_reducible rfl
  simp only [Act.put, List.setIfInBounds_toArray, List.set_cons_zero, List.set_cons_succ]
  refine wpAnyH_yes (i := 26) (d := 93) (v := ?_) rfl rfl (by kernel_rfl) (by kernel_rfl) (by kernel_rfl) (fun _ _ _ h => h) (by rfl) ?_ hS2 ?_
  rotate_left
  · intro w' hSw; go_simp <;> with_reducible rfl
  simp only [Act.put, List.setIfInBounds_toArray, List.set_cons_zero, List.set_cons_succ]
  refine wpAnyH_yes (i := 27) (d := 94) (v := ?_) rfl rfl (by kernel_rfl) (by kernel_rfl) (by kernel_rfl) (fun _ _ _ h => h) (by rfl) ?_ hS2 ?_
  rotate_left
  · intro w' hSw; go_simp <;> with_reducible rfl
  simp only [Act.put, List.setIfInBounds_toArray, List.set_cons_zero, List.set_cons_succ]
  refine wpAnyH_yes (i := 28) (d := 95) (v := ?_) rfl rfl (by kernel_rfl) (by kernel_rfl) (by kernel_rfl) (fun _ _ _ h => h) (by rfl) ?_ hS2 ?_
  rotate_left
  · intro w' hSw; go_simp <;> with_reducible rfl
  simp only [Act.put, List.setIfInBounds_toArray, List.set_cons_zero, List.set_cons_succ]
  refine wpAnyH_yes (i := 29) (d := 96) (v := ?_) rfl rfl (by kernel_rfl) (by kernel_rfl) (by kernel_rfl) (fun _ _ _ h => h) (by rfl) ?_ hS2 ?_
  rotate_left
  · intro w' hSw; go_simp <;> with_reducible rfl
  simp only [Act.put, List.setIfInBounds_toArray, List.set_cons_zero, List.set_cons_succ]
  refine wpAnyH_yes (i := 30) (d := 97) (v := ?_) rfl rfl (by kernel_rfl) (by kernel_rfl) (by kernel_rfl) (fun _ _ _ h => h) (by rfl) ?_ hS2 ?_
  rotate_left
  · intro w' hSw; go_simp <;> with_reducible rfl
  simp only [Act.put, List.setIfInBounds_toArray, List.set_cons_zero, List.set_cons_succ]
  refine wpAnyH_yes (i := 31) (d := 98) (v := ?_) rfl rfl (by kernel_rfl) (by kernel_rfl) (by kernel_rfl) (fun _ _ _ h => h) (by rfl) ?_ hS2 ?_
  rotate_left
  · intro w' hSw; go_simp <;> with_reducible rfl
  simp only [Act.put, List.setIfInBounds_toArray, List.set_cons_zero, List.set_cons_succ]
  refine wpAnyH_yes (i := 32) (d := 99) (v := ?_) rfl rfl (by kernel_rfl) (by kernel_rfl) (by kernel_rfl) (fun _ _ _ h => h) (by rfl) ?_ hS2 ?_
  rotate_left
  · intro w' hSw; go_simp <;> with_reducible rfl
  simp only [Act.put, List.setIfInBounds_toArray, List.set_cons_zero, List.set_cons_succ]
  refine wpAnyH_one (i := 33) (by kernel_rfl) rfl (by rfl) (fun K hK5 => ?_)
  go_simp
  have hbA : ∀ m : Nat × Nat, Below w9.heap.size w9 (w10.alloc (.cells #[.int .u8 97, .int .u8 98] 5 m)) := fun m => hS2.1.alloc hS2.1.size _
  have hS3 := hkeep.out _ (hbA (0, 0))
  have hS4 := hkeep.out _ (hbA (2, 3))
  have hS5 := hkeep.out _ ((hbA (2, 3)).alloc (hbA (2, 3)).size (.cells #[.slice (some ⟨w10.heap.size, 0, none⟩) 2 2, .slice none 0 0] 22))
  refine hK5.out _ _ hS3 ?_
  refine wpAnyH_one (i := 34) (by kernel_rfl) rfl (by rfl) (fun K hK6 => ?_)
  go_simp
  refine hK6.out _ _ hS4 ?_
  refine wpAnyH_one (i := 35) (by kernel_rfl) rfl (by rfl) (fun K hK7 => ?_)
  go_simp
  refine hK7.out _ _ hS5 ?_
  refine wpAnyH_one (i := 36) (by kernel_rfl) rfl (by rfl) (fun K hK8 => ?_)
  go_simp
  have hrr := rows_ab w10 (2, 3)
  rw [World.size_alloc] at hrr
  with_reducible refine (same_at Bl _ [[97, 98], []] 2 cl 2 rfl (by decide) _ (hRl.below hS5.1) hrr).mono ?_
  rintro e w11 ⟨rfl, hb11⟩
  have hS6 := hkeep.out w11 (below_next hS5.1 (Nat.le_refl _) hb11)
  go_wp2_with fail
  refine hK8.out _ _ hS6 ?_
  refine wpAnyH_yes (i := 37) (d := 104) (v := ?_) rfl rfl (by kernel_rfl) (by kernel_rfl) (by kernel_rfl) (fun _ _ _ h => h) (by rfl) ?_ hS6 ?_
  rotate_left
  · intro w' hSw; go_simp <;> with_reducible rfl
  simp only [Act.put, List.setIfInBounds_toArray, List.set_cons_zero, List.set_cons_succ]
  refine wpAnyH_yes (i := 38) (d := 105) (v := ?_) rfl rfl (by kernel_rfl) (by kernel_rfl) (by kernel_rfl) (fun _ _ _ h => h) (by rfl) ?_ hS6 ?_
  rotate_left
  · intro w' hSw; go_simp <;> with_reducible rfl
  simp only [Act.put, List.setIfInBounds_toArray, List.set_cons_zero, List.set_cons_succ]
  refine wpAnyH_yes (i := 39) (d := 106) (v := ?_) rfl rfl (by kernel_rfl) (by kernel_rfl) (by kernel_rfl) (fun _ _ _ h => h) (by rfl) ?_ hS6 ?_
  rotate_left
  · intro w' hSw; go_simp <;> with_reducible rfl
  simp only [Act.put, List.setIfInBounds_toArray, List.set_cons_zero, List.set_cons_succ]
  refine wpAnyH_yes (i := 40) (d := 107) (v := ?_) rfl rfl (by kernel_rfl) (by kernel_rfl) (by kernel_rfl) (fun _ _ _ h => h) (by rfl) ?_ hS6 ?_
  rotate_left
  · intro w' hSw; go_simp <;> with_reducible rfl
  simp only [Act.put, List.setIfInBounds_toArray, List.set_cons_zero, List.set_cons_succ]
  refine wpAnyH_yes (i := 41) (d := 108) (v := ?_) rfl rfl (by kernel_rfl) (by kernel_rfl) (by kernel_rfl) (fun _ _ _ h => h) (by rfl) ?_ hS6 ?_
  rotate_left
  · intro w' hSw; go_simp <;> with_reducible rfl
  simp only [Act.put, List.setIfInBounds_toArray, List.set_cons_zero, List.set_cons_succ]
  refine wpAnyH_yes (i := 42) (d := 109) (v := ?_) rfl rfl (by kernel_rfl) (by kernel_rfl) (by kernel_rfl) (fun _ _ _ h => h) (by rfl) ?_ hS6 ?_
  rotate_left
  · intro w' hSw; go_simp <;> with_reducible rfl
  simp only [Act.put, List.setIfInBounds_toArray, List.set_cons_zero, List.set_cons_succ]
  refine wpAnyH_yes (i := 43) (d := 110) (v := ?_) rfl rfl (by kernel_rfl) (by kernel_rfl) (by kernel_rfl) (fun _ _ _ h => h) (by rfl) ?_ hS6 ?_
  rotate_left
  · intro w' hSw; go_simp <;> with_reducible rfl
  simp only [Act.put, List.setIfInBounds_toArray, List.set_cons_zero, List.set_cons_succ]
  refine wpAnyH_yes (i := 44) (d := 111) (v := ?_) rfl rfl (by kernel_rfl) (by kernel_rfl) (by kernel_rfl) (fun _ _ _ h => h) (by rfl) ?_ hS6 ?_
  rotate_left
  · intro w' hSw; go_simp <;> with_reducible rfl
  simp only [Act.put, List.setIfInBounds_toArray, List.set_cons_zero, List.set_cons_succ]
  refine wpAnyH_yes (i := 45) (d := 112) (v := ?_) rfl rfl (by kernel_rfl) (by kernel_rfl) (by kernel_rfl) (fun _ _ _ h => h) (by rfl) ?_ hS6 ?_
  rotate_left
  · intro w' hSw; go_simp <;> with_reducible rfl
  simp only [Act.put, List.setIfInBounds_toArray, List.set_cons_zero, List.set_cons_succ]
  refine wpAnyH_yes (i := 46) (d := 113) (v := ?_) rfl rfl (by kernel_rfl) (by kernel_rfl) (by kernel_rfl) (fun _ _ _ h => h) (by rfl) ?_ hS6 ?_
  rotate_left
  · intro w' hSw; go_simp <;> with_reducible rfl
  simp only [Act.put, List.setIfInBounds_toArray, List.set_cons_zero, List.set_cons_succ]
  refine wpAnyH_yes (i := 47) (d := 114) (v := ?_) rfl rfl (by kernel_rfl) (by kernel_rfl) (by kernel_rfl) (fun _ _ _ h => h) (by rfl) ?_ hS6 ?_
  rotate_left
  · intro w' hSw; go_simp <;> with_reducible rfl
  simp only [Act.put, List.setIfInBounds_toArray, List.set_cons_zero, List.set_cons_succ]
  refine wpAnyH_yes (i := 48) (d := 115) (v := ?_) rfl rfl (by kernel_rfl) (by kernel_rfl) (by kernel_rfl) (fun _ _ _ h => h) (by rfl) ?_ hS6 ?_
  rotate_left
  · intro w' hSw; go_simp <;> with_reducible rfl
  simp only [Act.put, List.setIfInBounds_toArray, List.set_cons_zero, List.set_cons_succ]
  refine wpAnyH_yes (i := 49) (d := 116) (v := ?_) rfl rfl (by kernel_rfl) (by kernel_rfl) (by kernel_rfl) (fun _ _ _ h => h) (by rfl) ?_ hS6 ?_
  rotate_left
  · intro w' hSw; go_simp <;> with_reducible rfl
  simp only [Act.put, List.setIfInBounds_toArray, List.set_cons_zero, List.set_cons_succ]
  refine wpAnyH_yes (i := 50) (d := 117) (v := ?_) rfl rfl (by kernel_rfl) (by kernel_rfl) (by kernel_rfl) (fun _ _ _ h => h) (by rfl) ?_ hS6 ?_
  rotate_left
  · intro w' hSw; go_simp <;> with_reducible rfl
  simp only [Act.put, List.setIfInBounds_toArray, List.set_cons_zero, List.set_cons_succ]
  refine wpAnyH_yes (i := 51) (d := 118) (v := ?_) rfl rfl (by kernel_rfl) (by kernel_rfl) (by kernel_rfl) (fun _ _ _ h => h) (by rfl) ?_ hS6 ?_
  rotate_left
  · intro w' hSw; go_simp <;> with_reducible rfl
  simp only [Act.put, List.setIfInBounds_toArray, List.set_cons_zero, List.set_cons_succ]
  refine wpAnyH_yes (i := 52) (d := 119) (v := ?_) rfl rfl (by kernel_rfl) (by kernel_rfl) (by kernel_rfl) (fun _ _ _ h => h) (by rfl) ?_ hS6 ?_
  rotate_left
  · intro w' hSw; go_simp <;> with_reducible rfl
  simp only [Act.put, List.setIfInBounds_toArray, List.set_cons_zero, List.set_cons_succ]
  refine wpAnyH_yes (i := 53) (d := 120) (v := ?_) rfl rfl (by kernel_rfl) (by kernel_rfl) (by kernel_rfl) (fun _ _ _ h => h) (by rfl) ?_ hS6 ?_
  rotate_left
  · intro w' hSw; go_simp <;> with_reducible rfl
  simp only [Act.put, List.setIfInBounds_toArray, List.set_cons_zero, List.set_cons_succ]
  refine wpAnyH_yes (i := 54) (d := 121) (v := ?_) rfl rfl (by kernel_rfl) (by kernel_rfl) (by kernel_rfl) (fun _ _ _ h => h) (by rfl) ?_ hS6 ?_
  rotate_left
  · intro w' hSw; go_simp <;> with_reducible rfl
  simp only [Act.put, List.setIfInBounds_toArray, List.set_cons_zero, List.set_cons_succ]
  refine wpAnyH_yes (i := 55) (d := 122) (v := ?_) rfl rfl (by kernel_rfl) (by kernel_rfl) (by kernel_rfl) (fun _ _ _ h => h) (by rfl) ?_ hS6 ?_
  rotate_left
  · intro w' hSw; go_simp <;> with_reducible rfl
  simp only [Act.put, List.setIfInBounds_toArray, List.set_cons_zero, List.set_cons_succ]
  refine wpAnyH_yes (i := 56) (d := 123) (v := ?_) rfl rfl (by kernel_rfl) (by kernel_rfl) (by kernel_rfl) (fun _ _ _ h => h) (by rfl) ?_ hS6 ?_
  rotate_left
  · intro w' hSw; go_simp <;> with_reducible rfl
  simp only [Act.put, List.setIfInBounds_toArray, List.set_cons_zero, List.set_cons_succ]
  refine wpAnyH_yes (i := 57) (d := 124) (v := ?_) rfl rfl (by kernel_rfl) (by kernel_rfl) (by kernel_rfl) (fun _ _ _ h => h) (by rfl) ?_ hS6 ?_
  rotate_left
  · intro w' hSw; go_simp <;> with_reducible rfl
  simp only [Act.put, List.setIfInBounds_toArray, List.set_cons_zero, List.set_cons_succ]
  refine wpAnyH_yes (i := 58) (d := 125) (v := ?_) rfl rfl (by kernel_rfl) (by kernel_rfl) (by kernel_rfl) (fun _ _ _ h => h) (by rfl) ?_ hS6 ?_
  rotate_left
  · intro w' hSw; go_simp <;> with_reducible rfl
  simp only [Act.put, List.setIfInBounds_toArray, List.set_cons_zero, List.set_cons_succ]
  refine wpAnyH_yes (i := 59) (d := 126) (v := ?_) rfl rfl (by kernel_rfl) (by kernel_rfl) (by kernel_rfl) (fun _ _ _ h => h) (by rfl) ?_ hS6 ?_
  rotate_left
  · intro w' hSw; go_simp <;> with_reducible rfl
  simp only [Act.put, List.setIfInBounds_toArray, List.set_cons_zero, List.set_cons_succ]
  refine wpAnyH_yes (i := 60) (d := 127) (v := ?_) rfl rfl (by kernel_rfl) (by kernel_rfl) (by kernel_rfl) (fun _ _ _ h => h) (by rfl) ?_ hS6 ?_
  rotate_left
  · intro w' hSw; go_simp <;> with_reducible rfl
  simp only [Act.put, List.setIfInBounds_toArray, List.set_cons_zero, List.set_cons_succ]
  refine wpAnyH_yes (i := 61) (d := 128) (v := ?_) rfl rfl (by kernel_rfl) (by kernel_rfl) (by kernel_rfl) (fun _ _ _ h => h) (by rfl) ?_ hS6 ?_
  rotate_left
  · intro w' hSw; go_simp <;> with_reducible rfl
  simp only [Act.put, List.setIfInBounds_toArray, List.set_cons_zero, List.set_cons_succ]
  refine wpAnyH_yes (i := 62) (d := 129) (v := ?_) rfl rfl (by kernel_rfl) (by kernel_rfl) (by kernel_rfl) (fun _ _ _ h => h) (by rfl) ?_ hS6 ?_
  rotate_left
  · intro w' hSw; go_simp <;> with_reducible rfl
  simp only [Act.put, List.setIfInBounds_toArray, List.set_cons_zero, List.set_cons_succ]
  refine wpAnyH_yes (i := 63) (d := 0) (v := ?_) rfl rfl (by kernel_rfl) (by kernel_rfl) (by kernel_rfl) (fun _ _ _ h => h) (by rfl) ?_ hS6 ?_
  rotate_left
  · intro w' hSw; go_simp <;> with_reducible rfl
  simp only [Act.put, List.setIfInBounds_toArray, List.set_cons_zero]
  refine wpAnyH_done (by kernel_rfl) ?_ _
  go_wp2_with fail
  go_ret
  exact ⟨rfl, below_next hb9 (Nat.le_refl _) hS6.1⟩
end Go.Proofs.Ytncpbmokbnjjoaa
