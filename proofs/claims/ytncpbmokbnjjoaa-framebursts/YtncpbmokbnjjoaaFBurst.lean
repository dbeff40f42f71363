/- Frames of which some bits within thirty-two are turned: no program stands in this text. -/
import Derived.Test.YtncpbmokbnjjoaaFMath
namespace Go.Proofs.Ytncpbmokbnjjoaa.Frm
open Crc
theorem burst_some (bs : List UInt8) (at' mask k : Nat) (h : at' + k ≤ 8 * (bs.length + 4)) (hk : k ≤ 32) (h0 : mask % 2 ^ k ≠ 0) : good (burst (shut bs) at' mask k) = false := by
  rw [Bool.eq_false_iff]
  intro hg
  have hl := shut_length bs
  rw [good_iff _ (by rw [burst_length, hl]; omega), fold_burst _ _ _ _ _ (by omega)] at hg
  rw [(good_iff (shut bs) (by omega)).1 (good_shut bs)] at hg
  have hz : steps (8 * (shut bs).length - at') (mask % 2 ^ k) = 0 := by
    have := congrArg (fun x => steps 32 all1 ^^^ x) hg
    simp only [xor_xor, Nat.xor_self] at this
    exact this
  have hlt : mask % 2 ^ k < 4294967296 := by
    have h1 := Nat.mod_lt mask (Nat.two_pow_pos k)
    have h2 : 2 ^ k ≤ 2 ^ 32 := Nat.pow_le_pow_right (by decide) hk
    omega
  exact h0 (steps_inj0 _ _ hlt hz)
theorem burst_same (bs : List UInt8) (at' mask k : Nat) (h0 : mask % 2 ^ k = 0) : burst bs at' mask k = bs := by
  induction k with
  | zero => rfl
  | succ k ih =>
    have h1 : mask % 2 ^ (k + 1) = mask % 2 ^ k + 2 ^ k * (mask / 2 ^ k % 2) := Nat.mod_pow_succ
    have h2 : mask % 2 ^ k = 0 := by omega
    have h3 : 2 ^ k * (mask / 2 ^ k % 2) = 0 := by omega
    have h4 : mask / 2 ^ k % 2 = 0 := by
      rcases Nat.mul_eq_zero.1 h3 with h | h
      · have := Nat.two_pow_pos k; omega
      · exact h
    simp only [burst]
    rw [if_neg (by omega), ih h2]
theorem burst_parts (H S : List UInt8) (hH : H.length = 6) (at' mask k : Nat) :
    burst (H ++ S) at' mask k = burst H at' mask (min k (48 - at')) ++ burst S (at' - 48) (mask / 2 ^ (48 - at')) (k - (48 - at')) := by
  induction k with
  | zero => simp [burst]
  | succ k ih =>
    have e0 : burst (H ++ S) at' mask (k + 1) = if mask / 2 ^ k % 2 = 1 then turn (burst (H ++ S) at' mask k) (at' + k) else burst (H ++ S) at' mask k := rfl
    rw [e0, ih]
    by_cases hk : k < 48 - at'
    · rw [show min k (48 - at') = k by omega, show min (k + 1) (48 - at') = k + 1 by omega, show k - (48 - at') = 0 by omega, show k + 1 - (48 - at') = 0 by omega]
      have e1 : burst H at' mask (k + 1) = if mask / 2 ^ k % 2 = 1 then turn (burst H at' mask k) (at' + k) else burst H at' mask k := rfl
      rw [e1]
      split
      · rw [turn_app_left _ _ _ (by rw [burst_length, hH]; omega)]
      · rfl
    · obtain ⟨i, hi⟩ : ∃ i, k = 48 - at' + i := ⟨k - (48 - at'), by omega⟩
      rw [show min k (48 - at') = 48 - at' by omega, show min (k + 1) (48 - at') = 48 - at' by omega, show k - (48 - at') = i by omega, show k + 1 - (48 - at') = i + 1 by omega]
      have e1 : burst S (at' - 48) (mask / 2 ^ (48 - at')) (i + 1) = if mask / 2 ^ (48 - at') / 2 ^ i % 2 = 1 then turn (burst S (at' - 48) (mask / 2 ^ (48 - at')) i) (at' - 48 + i) else burst S (at' - 48) (mask / 2 ^ (48 - at')) i := rfl
      rw [e1, Nat.div_div_eq_div_mul, ← Nat.pow_add, ← hi]
      split
      · rw [turn_app_right _ _ _ (by rw [burst_length, hH]; omega), burst_length, hH, show at' + k - 8 * 6 = at' - 48 + i by omega]
      · rfl
theorem err_burst (b : List UInt8) (h : b.length ≤ 8192) (at' mask : Nat) (ha : at' + 32 ≤ 8 * (b.length + 10)) (hm : mask < 4294967296) (h0 : mask ≠ 0) : err (burst (frame b) at' mask 32) = 6 := by
  refine err_spoilt b _ h (by rw [burst_length, frame_length]) ?_
  have e : burst (frame b) at' mask 32 = burst (shut (two b.length)) at' mask (min 32 (48 - at')) ++ burst (shut b) (at' - 48) (mask / 2 ^ (48 - at')) (32 - (48 - at')) := burst_parts _ _ (head_length _) _ _ _
  have hl : (burst (shut (two b.length)) at' mask (min 32 (48 - at'))).length = 6 := by rw [burst_length, head_length]
  have e6 : (burst (frame b) at' mask 32).take 6 = burst (shut (two b.length)) at' mask (min 32 (48 - at')) := by
    rw [e, List.take_append_of_le_length (by omega), List.take_of_length_le (by omega)]
  have d6 : (burst (frame b) at' mask 32).drop 6 = burst (shut b) (at' - 48) (mask / 2 ^ (48 - at')) (32 - (48 - at')) := by
    rw [e, List.drop_append_of_le_length (by omega), List.drop_of_length_le (by omega)]; rfl
  rw [e6, d6]
  by_cases hz : mask % 2 ^ (min 32 (48 - at')) = 0
  · right
    refine ⟨burst_same _ _ _ _ hz, burst_some b _ _ _ (by omega) (by omega) ?_⟩
    by_cases hj : 32 ≤ 48 - at'
    · rw [show min 32 (48 - at') = 32 by omega, Nat.mod_eq_of_lt (by simpa using hm)] at hz
      exact absurd hz h0
    · rw [show min 32 (48 - at') = 48 - at' by omega] at hz
      have hd := Nat.div_add_mod mask (2 ^ (48 - at'))
      have hlt : mask / 2 ^ (48 - at') < 2 ^ (32 - (48 - at')) := by
        rw [Nat.div_lt_iff_lt_mul (Nat.two_pow_pos _), ← Nat.pow_add, show 32 - (48 - at') + (48 - at') = 32 by omega]; simpa using hm
      rw [Nat.mod_eq_of_lt hlt]
      intro hq
      rw [hq, hz] at hd
      simp at hd
      exact h0 hd.symm
  · left
    refine burst_some (two b.length) _ _ _ ?_ (by omega) hz
    rw [two_length]
    by_cases hj : at' ≤ 48
    · omega
    · exfalso
      rw [show min 32 (48 - at') = 0 by omega] at hz
      simp [Nat.mod_one] at hz
end Go.Proofs.Ytncpbmokbnjjoaa.Frm
