/- The document's own answers for layer 1 (package rosetteref01). -/
import Derived.Test.YtncpbmokbnjjoaaOpn
namespace Go.Proofs.Ytncpbmokbnjjoaa
open Go.RowKit
theorem odd_yes (n : Nat) (h : n < 4294967296) (hb : ((n : Int) % 2 == 1) = true) : bits .xor .u32 ((n : Int) / 2) 3988292384 = (Crc.step n : Int) := by
  have : n % 2 = 1 := by have := beq_iff_eq.1 hb; omega
  rw [xor32p n h]; simp [Crc.step, this]
theorem odd_no (n : Nat) (hb : ((n : Int) % 2 == 1) = false) : (n : Int) / 2 = (Crc.step n : Int) := by
  have : ¬ n % 2 = 1 := by have := beq_eq_false_iff_ne.1 hb; omega
  simp [Crc.step, this]
set_option maxHeartbeats 400000 in
theorem turned_any (n : Nat) (h : n < 4294967296) (w : World) :
    Calls Try.prog 31 #[.int .u32 (n : Int)] w fun e w' => e = .returned (.int .u32 (Crc.so n : Int)) ∧ w = w' := by
  go_enter Try.func31, Try.ntmps31
  go_wp2
  go_loop [0, 3] (fun x i => ∃ k : Nat, k ≤ 8 ∧ i = .int .i64 k ∧ x = .int .u32 (Crc.steps k n : Int)) (fun _ i => 8 - (intOf i).toNat)
  case atStart => exact ⟨0, by omega, rfl, rfl⟩
  case round =>
    obtain ⟨k, hk, rfl, rfl⟩ := hrel
    have hs := Crc.steps_lt k n h
    have HS := Lib.hid (steps_succ k n)
    generalize hx : Crc.steps k n = x at *
    have HX := Lib.hid hx
    clear hx
    by_cases hlt : k < 8
    · go_wp2
      · go_round
        case rel => exact ⟨k + 1, by omega, by go_num, by rw [HS.out, odd_yes x hs ‹_›]⟩
        case measure => simp [intOf]; omega
      · go_round
        case rel => exact ⟨k + 1, by omega, by go_num, by rw [HS.out, odd_no x ‹_›]⟩
        case measure => simp [intOf]; omega
    · go_wp2
      go_ret
      obtain rfl : k = 8 := by omega
      exact ⟨by rw [← HX.out]; rfl, rfl⟩
theorem and255 (R : Nat) (h : R < 4294967296) : bits .and .u32 (R : Int) 255 = ((R % 256 : Nat) : Int) := by
  have := u32_and_nat R 255 h (by decide)
  rw [nat_mask8] at this; exact this
theorem not32b (n : Nat) (h : n < 4294967296) : bits .xor .u32 (n : Int) 4294967295 = ((Crc.all1 ^^^ n : Nat) : Int) := by
  have := u32_xor_nat n 4294967295 h (by decide)
  rw [Nat.xor_comm] at this; exact this
set_option maxRecDepth 100000 in
set_option maxHeartbeats 400000 in
theorem radd_any (n : Nat) (A : Option Addr) (bs : List UInt8) (cap : Nat) (h1 : n < 4294967296) (hl : bs.length ≤ maxLen) (w : World) (hr : Rd w A bs) :
    Calls Try.prog 26 #[.int .u32 (n : Int), .slice A bs.length cap] w fun e w' => e = .returned (.int .u32 (Crc.add n bs : Int)) ∧ w = w' := by
  unfold maxLen at hl
  go_enter Try.func26, Try.ntmps26
  go_wp2_with fail
  go_loop [5, 6] (fun r i => ∃ k : Nat, k ≤ bs.length ∧ i = .int .i64 k ∧ r = .int .u32 (Crc.fold (Crc.all1 ^^^ n) (bs.take k) : Int)) (fun _ i => bs.length - (intOf i).toNat)
  case atStart =>
    exact ⟨0, by omega, rfl, by rw [not32b n h1]; rfl⟩
  case round =>
    obtain ⟨k, hk, rfl, rfl⟩ := hrel
    by_cases hlt : k < bs.length
    · obtain ⟨g, off, rfl, hg, hc⟩ := hr.at_ hlt
      generalize hR : Crc.fold (Crc.all1 ^^^ n) (bs.take k) = R
      have HR := Lib.hid hR
      clear hR
      have hRl : R < 4294967296 := by rw [← HR.out]; exact Crc.fold_lt _ _ (Crc.xor_lt _ _ Crc.all1_lt h1)
      generalize hX : bs[k] = x at *
      have HX := Lib.hid hX
      clear hX
      have hxl := x.toNat_lt
      have hj1 : R % 256 ^^^ x.toNat < 256 := Nat.xor_lt_two_pow (n := 8) (by omega) x.toNat_lt
      have hj : bits .xor .u32 (bits .and .u32 (R : Int) 255) (x.toNat : Int) = ((R % 256 ^^^ x.toNat : Nat) : Int) := by
        rw [and255 R hRl]; exact xor32 _ _ (by omega) (Crc.byte_lt x)
      have HU : Hid (Crc.fold (Crc.all1 ^^^ n) (bs.take (k + 1)) = Crc.upd R x) := by
        rw [List.take_succ_eq_append_getElem hlt, Crc.fold_append, HR.out, HX.out]; rfl
      have HV : Hid (Crc.upd R x = Crc.so (R % 256 ^^^ x.toNat) ^^^ (R / 256)) := rfl
      generalize R % 256 ^^^ x.toNat = j at *
      have HW := Lib.hid (xor32 (Crc.so j) (R / 256) (Crc.so_lt j (by omega)) (by omega))
      go_wp2_with fail
      refine (turned_any j (by omega) _).mono ?_
      rintro e w' ⟨rfl, rfl⟩
      go_wp2_with fail
      go_round
      case rel => exact ⟨k + 1, by omega, by go_num, by rw [HU.out, HV.out, ← HW.out]; rfl⟩
      case measure => simp [intOf]; omega
    · obtain rfl : k = bs.length := by omega
      have hRl : Crc.fold (Crc.all1 ^^^ n) (bs.take bs.length) < 4294967296 := Crc.fold_lt _ _ (Crc.xor_lt _ _ Crc.all1_lt h1)
      generalize hR : Crc.fold (Crc.all1 ^^^ n) (bs.take bs.length) = R at *
      have HR := Lib.hid hR
      clear hR
      go_wp2_with fail
      go_ret
      refine ⟨?_, rfl⟩
      rw [not32b R hRl, ← HR.out, List.take_length]; rfl
theorem rsum_any (A : Option Addr) (bs : List UInt8) (cap : Nat) (hl : bs.length ≤ maxLen) (w : World) (hr : Rd w A bs) :
    Calls Try.prog 17 #[.slice A bs.length cap] w fun e w' => e = .returned (.int .u32 (Crc.sum bs : Int)) ∧ w = w' := by
  go_enter Try.func17, Try.ntmps17
  go_wp2_with fail
  refine (radd_any 0 A bs cap (by decide) hl w hr).mono ?_
  rintro e w1 ⟨rfl, rfl⟩
  go_wp2_with fail
  go_ret
  exact ⟨rfl, rfl⟩
theorem rlow_any (n : Nat) (w : World) :
    Calls Try.prog 16 #[.int .u32 (n : Int)] w fun e w' => ∃ g, e = .returned (.slice (some ⟨g, 0, none⟩) 4 4) ∧ w.heap.size ≤ g ∧ Below w.heap.size w w' ∧ Blk w' g 5 ((Crc.low n).map Bv).toArray := by
  have HL := Lib.hid (low_vals n)
  go_enter Try.func16, Try.ntmps16
  go_wp2_with fail
  go_ret
  refine ⟨w.heap.size, rfl, Nat.le_refl _, (Below.refl _ _).alloc (Nat.le_refl _) _, ?_⟩
  rw [HL.out]; exact Blk.new _ _ _
theorem radd_at (s : Int) (n : Nat) (hs : s = (n : Int)) (A : Option Addr) (bs : List UInt8) (m cap : Nat) (h1 : n < 4294967296) (hm : bs.length = m) (hl : m ≤ 140737488351232) (w : World) (hr : Rd w A bs) :
    Calls Try.prog 26 #[.int .u32 s, .slice A m cap] w fun e w' => e = .returned (.int .u32 (Crc.add n bs : Int)) ∧ w = w' := by
  subst hm; subst hs
  exact radd_any n A bs cap h1 (by unfold maxLen; omega) w hr
theorem rsum_at (A : Option Addr) (bs : List UInt8) (n cap : Nat) (hn : bs.length = n) (hl : n ≤ maxLen) (w : World) (hr : Rd w A bs) :
    Calls Try.prog 17 #[.slice A n cap] w fun e w' => e = .returned (.int .u32 (Crc.sum bs : Int)) ∧ w = w' := by
  subst hn; exact rsum_any A bs cap hl w hr
set_option maxRecDepth 100000 in
set_option maxHeartbeats 400000 in
theorem rseal_own (A : Option Addr) (bs : List UInt8) (n cap : Nat) (hn : bs.length = n) (hl : n ≤ 140737488351232) (w : World) (hr : Rd w A bs) :
    Calls Try.prog 21 #[.slice A n cap] w fun e w' => ∃ B c, e = .returned (.slice B (n + 4) c) ∧ Below w.heap.size w w' ∧ Own w' w.heap.size 5 (.slice B (n + 4) c) (Crc.shut bs) := by
  obtain ⟨i0, hi0, hz0, hz1, hz2⟩ := info_parts byte_info
  have HN := Lib.hid hn
  clear hn
  have hr0 : ∀ o, Rd (w.alloc o) A bs := fun o => hr.below ((Below.refl _ _).alloc (Nat.le_refl _) o)
  go_enter Try.func21, Try.ntmps21
  go_wp2_with (at_builtin; refine wpList_append_rd rfl (.tmp 3) (.tmp 4) 22 rfl w.heap.size 5 i0 Try.underlying22 hi0 hz0 hz1 hz2 (.slice (some ⟨w.heap.size, 0, none⟩) 0 0) [] (by rfl) (Own.empty _ _ _ (Nat.le_refl _)) A bs n cap (by rfl) (hr0 _) HN.out (by simp; omega) (by simp) ?_; intro v1 w1 hO1 hb1' _ _)
  have hb1 := hb1' w ((Below.refl _ _).alloc (Nat.le_refl _) _)
  clear hb1'
  simp only [List.nil_append] at hO1
  refine (rsum_at A bs n cap HN.out (by unfold maxLen; omega) w1 (hr.below hb1)).mono ?_
  rintro e w2 ⟨rfl, rfl⟩
  go_wp2_with fail
  refine (rlow_any (Crc.sum bs) _).mono ?_
  rintro e w2 ⟨g2, rfl, hg2, hb2, hB2⟩
  have hO2 := hO1.below hb2
  replace hb2 := below_next hb1 (Nat.le_refl _) hb2
  have hr2 := hB2.rd
  go_wp2_with (at_builtin; refine wpList_append_rd rfl (.tmp 5) (.tmp 8) 22 rfl w.heap.size 5 i0 Try.underlying22 hi0 hz0 hz1 hz2 v1 bs (by rfl) hO2 (some ⟨g2, 0, none⟩) (Crc.low (Crc.sum bs)) 4 4 (by rfl) hr2 rfl (by rw [HN.out]; omega) hb2.size ?_; intro v3 w3 hO3 hb3' _ _)
  have hb3 := hb3' w hb2
  go_ret
  obtain ⟨B, c, rfl, _, _⟩ := hO3.rd
  rw [show (bs ++ Crc.low (Crc.sum bs)).length = n + 4 by rw [List.length_append, HN.out]; rfl] at hO3
  exact ⟨B, c, by rw [List.length_append, HN.out]; rfl, hb3, hO3⟩
theorem rseal_any (A : Option Addr) (bs : List UInt8) (n cap : Nat) (hn : bs.length = n) (hl : n ≤ 140737488351232) (w : World) (hr : Rd w A bs) :
    Calls Try.prog 21 #[.slice A n cap] w fun e w' => ∃ B c, e = .returned (.slice B (n + 4) c) ∧ Below w.heap.size w w' ∧ Rd w' B (Crc.shut bs) := by
  refine (rseal_own A bs n cap hn hl w hr).mono ?_
  rintro e w' ⟨B, c, rfl, h1, h2⟩
  obtain ⟨B', c', e', _, h3⟩ := h2.rd
  injection e' with e1
  subst e1
  exact ⟨B, c, rfl, h1, h3⟩
set_option maxRecDepth 100000 in
set_option maxHeartbeats 400000 in
theorem ropen_short (A : Option Addr) (bs : List UInt8) (cap : Nat) (hl : bs.length < 4) (w : World) :
    Calls Try.prog 24 #[.slice A bs.length cap] w fun e w' => e = .returned (.tuple #[.slice none 0 0, .bool false]) ∧ Below w.heap.size w w' := by
  have hd : decide ((bs.length : Int) - 4 < 0) = true := by simp; omega
  go_enter Try.func24, Try.ntmps24
  go_wp2_with fail
  go_quiet (fail)
  go_wp2
  go_ret2
  exact ⟨rfl, below_drewN (Below.refl _ _) _⟩
set_option maxRecDepth 100000 in
set_option maxHeartbeats 800000 in
theorem ropen_yes (A : Option Addr) (bs : List UInt8) (cap : Nat) (hl : 4 ≤ bs.length) (hcap : bs.length ≤ cap) (hm : bs.length ≤ 140737488355328 - 4096) (w : World) (hr : Rd w A bs) (hg : Crc.good bs = true) :
    Calls Try.prog 24 #[.slice A bs.length cap] w fun e w' => ∃ B c, e = .returned (.tuple #[.slice B (bs.length - 4) c, .bool true]) ∧ Below w.heap.size w w' ∧ Own w' w.heap.size 5 (.slice B (bs.length - 4) c) (bs.take (bs.length - 4)) := by
  have hd : decide ((bs.length : Int) - 4 < 0) = false := by simp; omega
  have hd1 : 0 ≤ (bs.length : Int) - 4 := by omega
  have hd2 : 4 ≤ (bs.length : Int) := by omega
  have hd3 : (bs.length : Int) - 4 ≤ (cap : Int) := by omega
  have hd4 : (bs.length : Int) - 4 ≤ (bs.length : Int) := by omega
  have hd5 : (bs.length : Int) ≤ (cap : Int) := by omega
  have hd6 : ((bs.length : Int) - 4).toNat = bs.length - 4 := by omega
  have hd7 : ¬ cap = bs.length - 4 := by omega
  obtain ⟨i0, hi0, hz0, hz1, hz2⟩ := info_parts byte_info
  obtain ⟨g, off, rfl, hgw, hc⟩ := hr.at_ (k := 0) (by omega)
  clear hc
  go_enter Try.func24, Try.ntmps24
  go_wp2_with fail
  have hcv : ∀ w', Below w.heap.size w w' → Sem.run Try.prog (convert 22 9 (.slice (some ⟨g, off + (bs.length - 4), none⟩) (bs.length - (bs.length - 4)) (cap - (bs.length - 4)))) w' = .ok (.string ⟨(bs.drop (bs.length - 4)).toArray⟩) w' := fun w' hb => run_str (P := Try.prog) w' _ _ _ _ ((hr.below hb).drop _) (by simp) 22 5 9 Try.underlying22 Try.underlying5 Try.underlying9
  have HCV := Lib.hid hcv
  clear hcv
  have hS : Below w.heap.size w w.drew ∧ Sem.run Try.prog (convert 22 9 (.slice (some ⟨g, off + (bs.length - 4), none⟩) (bs.length - (bs.length - 4)) (cap - (bs.length - 4)))) w.drew = .ok (.string ⟨(bs.drop (bs.length - 4)).toArray⟩) w.drew := ⟨(Below.refl _ _).drew, HCV.out _ (Below.refl _ _).drew⟩
  refine wp_region_held_drew (S := fun w' => Below w.heap.size w w' ∧ Sem.run Try.prog (convert 22 9 (.slice (some ⟨g, off + (bs.length - 4), none⟩) (bs.length - (bs.length - 4)) (cap - (bs.length - 4)))) w' = .ok (.string ⟨(bs.drop (bs.length - 4)).toArray⟩) w') (by kernel_rfl) hS (fun _ => ?_)
  have HLOW : Hid (Crc.low (Crc.sum (bs.take (bs.length - 4))) = bs.drop (bs.length - 4)) := by
    simp [Crc.good] at hg
    rw [Hid, hg.2, Crc.low_told _ (by simp; omega)]
  refine wpAnyH_yes (i := 0) (d := 8) (v := ?_) rfl rfl (by kernel_rfl) (by kernel_rfl) (by kernel_rfl) (fun _ _ _ h => h) (by rfl) ?_ hS ?_
  rotate_left
  · intro w' hSw; go_simp <;> with_reducible rfl
  simp only [Act.put, List.setIfInBounds_toArray, List.set_cons_zero, List.set_cons_succ]
  refine wpAnyH_yes (i := 1) (d := 9) (v := ?_) rfl rfl (by kernel_rfl) (by kernel_rfl) (by kernel_rfl) (fun _ _ _ h => h) (by rfl) ?_ hS ?_
  rotate_left
  · intro w' hSw; go_simp <;> with_reducible rfl
  simp only [Act.put, List.setIfInBounds_toArray, List.set_cons_zero, List.set_cons_succ]
  refine wpAnyH_yes (i := 2) (d := 10) (v := ?_) rfl rfl (by kernel_rfl) (by kernel_rfl) (by kernel_rfl) (fun _ _ _ h => h) (by rfl) ?_ hS ?_
  rotate_left
  · intro w' hSw; go_simp <;> with_reducible rfl
  simp only [Act.put, List.setIfInBounds_toArray, List.set_cons_zero, List.set_cons_succ]
  refine wpAnyH_yes (i := 3) (d := 11) (v := ?_) rfl rfl (by kernel_rfl) (by kernel_rfl) (by kernel_rfl) (fun _ _ _ h => h) (by rfl) ?_ hS ?_
  rotate_left
  · intro w' hSw; go_simp <;> with_reducible rfl
  simp only [Act.put, List.setIfInBounds_toArray, List.set_cons_zero, List.set_cons_succ]
  refine wpAnyH_yes (i := 4) (d := 12) (v := ?_) rfl rfl (by kernel_rfl) (by kernel_rfl) (by kernel_rfl) (fun _ _ _ h => h) (by rfl) ?_ hS ?_
  rotate_left
  · intro w' hSw; go_simp <;> with_reducible rfl
  simp only [Act.put, List.setIfInBounds_toArray, List.set_cons_zero, List.set_cons_succ]
  refine wpAnyH_yes (i := 5) (d := 13) (v := ?_) rfl rfl (by kernel_rfl) (by kernel_rfl) (by kernel_rfl) (fun _ _ _ h => h) (by rfl) ?_ hS ?_
  rotate_left
  · intro w' hSw; go_simp <;> with_reducible rfl
  simp only [Act.put, List.setIfInBounds_toArray, List.set_cons_zero, List.set_cons_succ]
  refine wpAnyH_yes (i := 9) (d := 17) (v := ?_) rfl rfl (by kernel_rfl) (by kernel_rfl) (by kernel_rfl) (fun _ _ _ h => h) (by rfl) ?_ hS ?_
  rotate_left
  · intro w' hSw; go_simp <;> with_reducible rfl
  simp only [Act.put, List.setIfInBounds_toArray, List.set_cons_zero, List.set_cons_succ]
  refine wpAnyH_yes (i := 10) (d := 18) (v := ?_) rfl rfl (by kernel_rfl) (by kernel_rfl) (by kernel_rfl) (fun _ _ _ h => h) (by rfl) ?_ hS ?_
  rotate_left
  · intro w' hSw; go_simp <;> with_reducible rfl
  simp only [Act.put, List.setIfInBounds_toArray, List.set_cons_zero, List.set_cons_succ]
  refine wpAnyH_yes (i := 11) (d := 19) (v := ?_) rfl rfl (by kernel_rfl) (by kernel_rfl) (by kernel_rfl) (fun _ _ _ h => h) (by rfl) ?_ hS ?_
  rotate_left
  · intro w' hSw; go_simp <;> with_reducible rfl
  simp only [Act.put, List.setIfInBounds_toArray, List.set_cons_zero, List.set_cons_succ]
  refine wpAnyH_yes (i := 12) (d := 20) (v := ?_) rfl rfl (by kernel_rfl) (by kernel_rfl) (by kernel_rfl) (fun _ _ _ h => h) (by rfl) ?_ hS ?_
  rotate_left
  · intro w' hSw; go_simp <;> with_reducible rfl
  simp only [Act.put, List.setIfInBounds_toArray, List.set_cons_zero, List.set_cons_succ]
  refine wpAnyH_one (i := 6) (by kernel_rfl) rfl (by rfl) (fun K hK => ?_)
  go_simp
  with_reducible refine (rsum_at _ (bs.take (bs.length - 4)) _ _ (by simp) (by unfold maxLen; omega) _ ((hr.below hS.1).take _)).mono ?_
  rintro e w1 ⟨rfl, rfl⟩
  go_wp2_with fail
  refine hK.out _ _ hS ?_
  refine wpAnyH_one (i := 7) (by kernel_rfl) rfl (by rfl) (fun K hK1 => ?_)
  go_simp
  with_reducible refine (rlow_any (Crc.sum (bs.take (bs.length - 4))) _).mono ?_
  rintro e w2 ⟨g2, rfl, hg2, hb2, hB2⟩
  replace hb2 := below_next hS.1 (Nat.le_refl _) hb2
  have hS2 := And.intro hb2 (HCV.out w2 hb2)
  rw [HLOW.out] at hB2
  have hst2 := run_str (P := Try.prog) w2 _ _ 4 4 hB2.rd (by simp; omega) 22 5 9 Try.underlying22 Try.underlying5 Try.underlying9
  go_wp2_with fail
  refine hK1.out _ _ hS2 ?_
  refine wpAnyH_one (i := 8) (by kernel_rfl) rfl (by rfl) (fun K hK2 => ?_)
  go_simp
  refine hK2.out _ _ hS2 ?_
  refine wpAnyH_yes (i := 13) (d := 21) (v := ?_) rfl rfl (by kernel_rfl) (by kernel_rfl) (by kernel_rfl) (fun _ _ _ h => h) (by rfl) ?_ hS2 ?_
  rotate_left
  · intro w' hSw; go_simp <;> with_reducible rfl
  simp only [Act.put, List.setIfInBounds_toArray, List.set_cons_zero, List.set_cons_succ]
  refine wpAnyH_yes (i := 14) (d := 22) (v := ?_) rfl rfl (by kernel_rfl) (by kernel_rfl) (by kernel_rfl) (fun _ _ _ h => h) (by rfl) ?_ hS2 ?_
  rotate_left
  · intro w' hSw; go_simp <;> with_reducible rfl
  simp only [Act.put, List.setIfInBounds_toArray, List.set_cons_zero, List.set_cons_succ]
  refine wpAnyH_done (by kernel_rfl) ?_ _
  have hr3 : ∀ o, Rd (w2.alloc o) (some ⟨g, off, none⟩) (bs.take (bs.length - 4)) := fun o => (hr.below (hb2.alloc hb2.size o)).take _
  go_wp2_with (at_builtin; refine wpList_append_rd rfl (.tmp 23) (.tmp 26) 22 rfl w.heap.size 5 i0 Try.underlying22 hi0 hz0 hz1 hz2 (.slice (some ⟨w2.heap.size, 0, none⟩) 0 0) [] (by rfl) (Own.empty _ _ _ hb2.size) (some ⟨g, off, none⟩) (bs.take (bs.length - 4)) (bs.length - 4) cap (by rfl) (hr3 _) (by simp) (by simp; omega) (by simp; have := hb2.size; omega) ?_; intro v1 w3 hO1 hb3' _ _)
  have hb3 := hb3' w (hb2.alloc hb2.size _)
  go_ret2
  simp only [List.nil_append] at hO1
  obtain ⟨B, c, rfl, _, _⟩ := hO1.rd
  rw [show (bs.take (bs.length - 4)).length = bs.length - 4 by simp] at hO1
  exact ⟨B, c, by simp, hb3, hO1⟩
set_option maxRecDepth 100000 in
set_option maxHeartbeats 800000 in
theorem ropen_no (A : Option Addr) (bs : List UInt8) (cap : Nat) (hl : 4 ≤ bs.length) (hcap : bs.length ≤ cap) (hm : bs.length ≤ 140737488355328 - 4096) (w : World) (hr : Rd w A bs) (hg : Crc.good bs = false) :
    Calls Try.prog 24 #[.slice A bs.length cap] w fun e w' => e = .returned (.tuple #[.slice none 0 0, .bool false]) ∧ Below w.heap.size w w' := by
  have hd : decide ((bs.length : Int) - 4 < 0) = false := by simp; omega
  have hd1 : 0 ≤ (bs.length : Int) - 4 := by omega
  have hd2 : 4 ≤ (bs.length : Int) := by omega
  have hd3 : (bs.length : Int) - 4 ≤ (cap : Int) := by omega
  have hd4 : (bs.length : Int) - 4 ≤ (bs.length : Int) := by omega
  have hd5 : (bs.length : Int) ≤ (cap : Int) := by omega
  have hd6 : ((bs.length : Int) - 4).toNat = bs.length - 4 := by omega
  have hd7 : ¬ cap = bs.length - 4 := by omega
  obtain ⟨i0, hi0, hz0, hz1, hz2⟩ := info_parts byte_info
  obtain ⟨g, off, rfl, hgw, hc⟩ := hr.at_ (k := 0) (by omega)
  clear hc
  go_enter Try.func24, Try.ntmps24
  go_wp2_with fail
  have hcv : ∀ w', Below w.heap.size w w' → Sem.run Try.prog (convert 22 9 (.slice (some ⟨g, off + (bs.length - 4), none⟩) (bs.length - (bs.length - 4)) (cap - (bs.length - 4)))) w' = .ok (.string ⟨(bs.drop (bs.length - 4)).toArray⟩) w' := fun w' hb => run_str (P := Try.prog) w' _ _ _ _ ((hr.below hb).drop _) (by simp) 22 5 9 Try.underlying22 Try.underlying5 Try.underlying9
  have HCV := Lib.hid hcv
  clear hcv
  have hS : Below w.heap.size w w.drew ∧ Sem.run Try.prog (convert 22 9 (.slice (some ⟨g, off + (bs.length - 4), none⟩) (bs.length - (bs.length - 4)) (cap - (bs.length - 4)))) w.drew = .ok (.string ⟨(bs.drop (bs.length - 4)).toArray⟩) w.drew := ⟨(Below.refl _ _).drew, HCV.out _ (Below.refl _ _).drew⟩
  refine wp_region_held_drew (S := fun w' => Below w.heap.size w w' ∧ Sem.run Try.prog (convert 22 9 (.slice (some ⟨g, off + (bs.length - 4), none⟩) (bs.length - (bs.length - 4)) (cap - (bs.length - 4)))) w' = .ok (.string ⟨(bs.drop (bs.length - 4)).toArray⟩) w') (by kernel_rfl) hS (fun _ => ?_)
  have HLOW : Hid (Crc.low (Crc.sum (bs.take (bs.length - 4))) ≠ bs.drop (bs.length - 4)) := by
    intro h
    simp [Crc.good, hl] at hg
    exact hg (by rw [← h, Crc.told_low _ (Crc.sum_lt _)])
  refine wpAnyH_yes (i := 0) (d := 8) (v := ?_) rfl rfl (by kernel_rfl) (by kernel_rfl) (by kernel_rfl) (fun _ _ _ h => h) (by rfl) ?_ hS ?_
  rotate_left
  · intro w' hSw; go_simp <;> with_reducible rfl
  simp only [Act.put, List.setIfInBounds_toArray, List.set_cons_zero, List.set_cons_succ]
  refine wpAnyH_yes (i := 1) (d := 9) (v := ?_) rfl rfl (by kernel_rfl) (by kernel_rfl) (by kernel_rfl) (fun _ _ _ h => h) (by rfl) ?_ hS ?_
  rotate_left
  · intro w' hSw; go_simp <;> with_reducible rfl
  simp only [Act.put, List.setIfInBounds_toArray, List.set_cons_zero, List.set_cons_succ]
  refine wpAnyH_yes (i := 2) (d := 10) (v := ?_) rfl rfl (by kernel_rfl) (by kernel_rfl) (by kernel_rfl) (fun _ _ _ h => h) (by rfl) ?_ hS ?_
  rotate_left
  · intro w' hSw; go_simp <;> with_reducible rfl
  simp only [Act.put, List.setIfInBounds_toArray, List.set_cons_zero, List.set_cons_succ]
  refine wpAnyH_yes (i := 3) (d := 11) (v := ?_) rfl rfl (by kernel_rfl) (by kernel_rfl) (by kernel_rfl) (fun _ _ _ h => h) (by rfl) ?_ hS ?_
  rotate_left
  · intro w' hSw; go_simp <;> with_reducible rfl
  simp only [Act.put, List.setIfInBounds_toArray, List.set_cons_zero, List.set_cons_succ]
  refine wpAnyH_yes (i := 4) (d := 12) (v := ?_) rfl rfl (by kernel_rfl) (by kernel_rfl) (by kernel_rfl) (fun _ _ _ h => h) (by rfl) ?_ hS ?_
  rotate_left
  · intro w' hSw; go_simp <;> with_reducible rfl
  simp only [Act.put, List.setIfInBounds_toArray, List.set_cons_zero, List.set_cons_succ]
  refine wpAnyH_yes (i := 5) (d := 13) (v := ?_) rfl rfl (by kernel_rfl) (by kernel_rfl) (by kernel_rfl) (fun _ _ _ h => h) (by rfl) ?_ hS ?_
  rotate_left
  · intro w' hSw; go_simp <;> with_reducible rfl
  simp only [Act.put, List.setIfInBounds_toArray, List.set_cons_zero, List.set_cons_succ]
  refine wpAnyH_yes (i := 9) (d := 17) (v := ?_) rfl rfl (by kernel_rfl) (by kernel_rfl) (by kernel_rfl) (fun _ _ _ h => h) (by rfl) ?_ hS ?_
  rotate_left
  · intro w' hSw; go_simp <;> with_reducible rfl
  simp only [Act.put, List.setIfInBounds_toArray, List.set_cons_zero, List.set_cons_succ]
  refine wpAnyH_yes (i := 10) (d := 18) (v := ?_) rfl rfl (by kernel_rfl) (by kernel_rfl) (by kernel_rfl) (fun _ _ _ h => h) (by rfl) ?_ hS ?_
  rotate_left
  · intro w' hSw; go_simp <;> with_reducible rfl
  simp only [Act.put, List.setIfInBounds_toArray, List.set_cons_zero, List.set_cons_succ]
  refine wpAnyH_yes (i := 11) (d := 19) (v := ?_) rfl rfl (by kernel_rfl) (by kernel_rfl) (by kernel_rfl) (fun _ _ _ h => h) (by rfl) ?_ hS ?_
  rotate_left
  · intro w' hSw; go_simp <;> with_reducible rfl
  simp only [Act.put, List.setIfInBounds_toArray, List.set_cons_zero, List.set_cons_succ]
  refine wpAnyH_yes (i := 12) (d := 20) (v := ?_) rfl rfl (by kernel_rfl) (by kernel_rfl) (by kernel_rfl) (fun _ _ _ h => h) (by rfl) ?_ hS ?_
  rotate_left
  · intro w' hSw; go_simp <;> with_reducible rfl
  simp only [Act.put, List.setIfInBounds_toArray, List.set_cons_zero, List.set_cons_succ]
  refine wpAnyH_one (i := 6) (by kernel_rfl) rfl (by rfl) (fun K hK => ?_)
  go_simp
  with_reducible refine (rsum_at _ (bs.take (bs.length - 4)) _ _ (by simp) (by unfold maxLen; omega) _ ((hr.below hS.1).take _)).mono ?_
  rintro e w1 ⟨rfl, rfl⟩
  go_wp2_with fail
  refine hK.out _ _ hS ?_
  refine wpAnyH_one (i := 7) (by kernel_rfl) rfl (by rfl) (fun K hK1 => ?_)
  go_simp
  with_reducible refine (rlow_any (Crc.sum (bs.take (bs.length - 4))) _).mono ?_
  rintro e w2 ⟨g2, rfl, hg2, hb2, hB2⟩
  replace hb2 := below_next hS.1 (Nat.le_refl _) hb2
  have hS2 := And.intro hb2 (HCV.out w2 hb2)
  have hst2 := run_str (P := Try.prog) w2 _ _ 4 4 hB2.rd rfl 22 5 9 Try.underlying22 Try.underlying5 Try.underlying9
  go_wp2_with fail
  refine hK1.out _ _ hS2 ?_
  refine wpAnyH_one (i := 8) (by kernel_rfl) rfl (by rfl) (fun K hK2 => ?_)
  go_simp
  refine hK2.out _ _ hS2 ?_
  refine wpAnyH_yes (i := 13) (d := 21) (v := .bool true) rfl rfl (by kernel_rfl) (by kernel_rfl) (by kernel_rfl) (fun _ _ _ h => h) (by rfl) ?_ hS2 ?_
  · intro w' hSw; go_simp; exact HLOW.out
  simp only [Act.put, List.setIfInBounds_toArray, List.set_cons_zero, List.set_cons_succ]
  refine wpAnyH_yes (i := 14) (d := 22) (v := ?_) rfl rfl (by kernel_rfl) (by kernel_rfl) (by kernel_rfl) (fun _ _ _ h => h) (by rfl) ?_ hS2 ?_
  rotate_left
  · intro w' hSw; go_simp <;> with_reducible rfl
  simp only [Act.put, List.setIfInBounds_toArray, List.set_cons_zero, List.set_cons_succ]
  refine wpAnyH_done (by kernel_rfl) ?_ _
  go_wp2_with fail
  go_ret2
  exact ⟨rfl, hb2⟩
theorem ropen_own (A : Option Addr) (bs : List UInt8) (n m cap : Nat) (hn : bs.length = n) (hm : n = m + 4) (hcap : n ≤ cap) (hl : n ≤ 140737488355328 - 4096) (w : World) (hr : Rd w A bs) (hg : Crc.good bs = true) :
    Calls Try.prog 24 #[.slice A n cap] w fun e w' => ∃ B c, e = .returned (.tuple #[.slice B m c, .bool true]) ∧ Below w.heap.size w w' ∧ Own w' w.heap.size 5 (.slice B m c) (bs.take m) := by
  subst hn
  obtain rfl : m = bs.length - 4 := by omega
  exact ropen_yes A bs cap (by omega) hcap hl w hr hg
theorem ropen_goodW (A : Option Addr) (bs : List UInt8) (n m cap : Nat) (hn : bs.length = n) (hm : n = m + 4) (hcap : n ≤ cap) (hl : n ≤ 140737488355328 - 4096) (w : World) (hr : Rd w A bs) (hg : Crc.good bs = true) :
    Calls Try.prog 24 #[.slice A n cap] w fun e w' => ∃ B c, e = .returned (.tuple #[.slice B m c, .bool true]) ∧ Below w.heap.size w w' ∧ Rd w' B (bs.take m) := by
  refine (ropen_own A bs n m cap hn hm hcap hl w hr hg).mono ?_
  rintro e w' ⟨B, c, rfl, h1, h2⟩
  obtain ⟨B', c', e', _, h3⟩ := h2.rd
  injection e' with e1
  subst e1
  exact ⟨B, c, rfl, h1, h3⟩
theorem ropen_noneW (A : Option Addr) (bs : List UInt8) (n cap : Nat) (hn : bs.length = n) (hcap : n ≤ cap) (hl : n ≤ 140737488355328 - 4096) (w : World) (hr : Rd w A bs) (hg : Crc.good bs = false) :
    Calls Try.prog 24 #[.slice A n cap] w fun e w' => e = .returned (.tuple #[.slice none 0 0, .bool false]) ∧ Below w.heap.size w w' := by
  subst hn
  by_cases h4 : 4 ≤ bs.length
  · exact ropen_no A bs cap h4 hcap hl w hr hg
  · exact ropen_short A bs cap (by omega) w
theorem ropen_good (A : Option Addr) (bs : List UInt8) (n m cap : Nat) (hn : bs.length = n) (hm : n = m + 4) (hcap : n ≤ cap) (hl : cap ≤ 140737488355328 - 4096) (w : World) (hr : Rd w A bs) (hg : Crc.good bs = true) :
    Calls Try.prog 24 #[.slice A n cap] w fun e w' => ∃ B c, e = .returned (.tuple #[.slice B m c, .bool true]) ∧ Below w.heap.size w w' ∧ Rd w' B (bs.take m) :=
  ropen_goodW A bs n m cap hn hm hcap (Nat.le_trans hcap hl) w hr hg
theorem ropen_none (A : Option Addr) (bs : List UInt8) (n cap : Nat) (hn : bs.length = n) (hcap : n ≤ cap) (hl : cap ≤ 140737488355328 - 4096) (w : World) (hr : Rd w A bs) (hg : Crc.good bs = false) :
    Calls Try.prog 24 #[.slice A n cap] w fun e w' => e = .returned (.tuple #[.slice none 0 0, .bool false]) ∧ Below w.heap.size w w' :=
  ropen_noneW A bs n cap hn hcap (Nat.le_trans hcap hl) w hr hg
end Go.Proofs.Ytncpbmokbnjjoaa
