/- Frames of which one, two or three bits are turned: no program stands in this text. -/
import Derived.Test.YtncpbmokbnjjoaaFMath
import Derived.Test.YtncpbmokbnjjoaaFew
namespace Go.Proofs.Ytncpbmokbnjjoaa.Frm
open Crc
theorem tl (H S : List UInt8) (p : Nat) (hH : H.length = 6) (h : p < 48) : turn (H ++ S) p = turn H p ++ S := turn_app_left H S p (by omega)
theorem tr (H S : List UInt8) (p : Nat) (hH : H.length = 6) (h : ¬ p < 48) : turn (H ++ S) p = H ++ turn S (p - 48) := by
  have := turn_app_right H S p (by omega)
  rwa [hH] at this
theorem head_turned (H S : List UInt8) (hH : H.length = 6) (p q r : Nat) (h : p < 48 ∨ q < 48 ∨ r < 48) :
    ∃ p' q' r' T, p' < 48 ∧ q' < 48 ∧ r' < 48 ∧ turn3 (H ++ S) p q r = turn3 H p' q' r' ++ T := by
  have hl : ∀ p, (turn H p).length = 6 := fun p => by rw [turn_length, hH]
  have hl2 : ∀ p q, (turn (turn H p) q).length = 6 := fun p q => by rw [turn_length, hl]
  by_cases hp : p < 48 <;> by_cases hq : q < 48 <;> by_cases hr : r < 48
  · refine ⟨p, q, r, S, hp, hq, hr, ?_⟩
    unfold turn3 turn2
    by_cases e1 : q = p <;> by_cases e2 : r = p <;> by_cases e3 : r = q <;> simp [e1, e2, e3, tl, hH, hl, hl2, hp, hq, hr] <;> simp_all [tl]
  · have e2 : r ≠ p := by omega
    have e3 : r ≠ q := by omega
    by_cases e1 : q = p
    · exact ⟨p, q, q, turn S (r - 48), hp, hq, hq, by unfold turn3 turn2; simp [e1, e2, tl _ _ _ hH hp, tr _ _ _ (hl _) hr]⟩
    · exact ⟨p, q, q, turn S (r - 48), hp, hq, hq, by unfold turn3 turn2; simp [e1, e2, e3, tl _ _ _ hH hp, tl _ _ _ (hl _) hq, tr _ _ _ (hl2 _ _) hr]⟩
  · have e1 : q ≠ p := by omega
    have e3 : r ≠ q := by omega
    by_cases e2 : r = p
    · exact ⟨p, p, p, turn S (q - 48), hp, hp, hp, by unfold turn3 turn2; simp [e1, e2, tl _ _ _ hH hp, tr _ _ _ (hl _) hq]⟩
    · exact ⟨p, p, r, turn S (q - 48), hp, hp, hr, by unfold turn3 turn2; simp [e1, e2, e3, tl _ _ _ hH hp, tr _ _ _ (hl _) hq, tl _ _ _ (hl _) hr]⟩
  · have e1 : q ≠ p := by omega
    have e2 : r ≠ p := by omega
    by_cases e3 : r = q
    · exact ⟨p, p, p, turn S (q - 48), hp, hp, hp, by unfold turn3 turn2; simp [e1, e3, tl _ _ _ hH hp, tr _ _ _ (hl _) hq]⟩
    · exact ⟨p, p, p, turn (turn S (q - 48)) (r - 48), hp, hp, hp, by unfold turn3 turn2; simp [e1, e2, e3, tl _ _ _ hH hp, tr _ _ _ (hl _) hq, tr _ _ _ (hl _) hr]⟩
  · have e1 : q ≠ p := by omega
    have e2 : r ≠ p := by omega
    by_cases e3 : r = q
    · exact ⟨q, q, q, turn S (p - 48), hq, hq, hq, by unfold turn3 turn2; simp [e1, e3, tr _ _ _ hH hp, tl _ _ _ hH hq]⟩
    · exact ⟨q, q, r, turn S (p - 48), hq, hq, hr, by unfold turn3 turn2; simp [e1, e2, e3, tr _ _ _ hH hp, tl _ _ _ hH hq, tl _ _ _ (hl _) hr]⟩
  · have e1 : q ≠ p := by omega
    have e3 : r ≠ q := by omega
    by_cases e2 : r = p
    · exact ⟨q, q, q, turn S (p - 48), hq, hq, hq, by unfold turn3 turn2; simp [e1, e2, tr _ _ _ hH hp, tl _ _ _ hH hq]⟩
    · exact ⟨q, q, q, turn (turn S (p - 48)) (r - 48), hq, hq, hq, by unfold turn3 turn2; simp [e1, e2, e3, tr _ _ _ hH hp, tl _ _ _ hH hq, tr _ _ _ (hl _) hr]⟩
  · have e2 : r ≠ p := by omega
    have e3 : r ≠ q := by omega
    by_cases e1 : q = p
    · exact ⟨r, r, r, turn S (p - 48), hr, hr, hr, by unfold turn3 turn2; simp [e1, e2, tr _ _ _ hH hp, tl _ _ _ hH hr]⟩
    · exact ⟨r, r, r, turn (turn S (p - 48)) (q - 48), hr, hr, hr, by unfold turn3 turn2; simp [e1, e2, e3, tr _ _ _ hH hp, tr _ _ _ hH hq, tl _ _ _ hH hr]⟩
  · omega
theorem tail_turned (H S : List UInt8) (hH : H.length = 6) (p q r : Nat) (hp : ¬ p < 48) (hq : ¬ q < 48) (hr : ¬ r < 48) :
    turn3 (H ++ S) p q r = H ++ turn3 S (p - 48) (q - 48) (r - 48) := by
  have c1 : (q ≠ p) = (q - 48 ≠ p - 48) := by apply propext; omega
  have c2 : (r ≠ p ∧ r ≠ q) = (r - 48 ≠ p - 48 ∧ r - 48 ≠ q - 48) := by apply propext; omega
  unfold turn3 turn2
  simp only [c1, c2]
  split <;> split <;> simp [tr _ _ _ hH hp, tr _ _ _ hH hq, tr _ _ _ hH hr]
theorem err_few (b : List UInt8) (h : b.length ≤ 1000) (p q r : Nat) (hp : p < 8 * (b.length + 10)) (hq : q < 8 * (b.length + 10)) (hr : r < 8 * (b.length + 10)) : err (turn3 (frame b) p q r) = 6 := by
  refine err_spoilt b _ (by omega) (by rw [turn3_length, frame_length]) ?_
  have hH := head_length b.length
  by_cases hx : p < 48 ∨ q < 48 ∨ r < 48
  · left
    obtain ⟨p', q', r', T, h1, h2, h3, e⟩ := head_turned (shut (two b.length)) (shut b) hH p q r hx
    have hl : (turn3 (shut (two b.length)) p' q' r').length = 6 := by rw [turn3_length, hH]
    rw [show turn3 (frame b) p q r = _ from e, List.take_append_of_le_length (by omega), List.take_of_length_le (by omega)]
    exact few_bad (two b.length) p' q' r' (by rw [two_length]; omega) (by rw [two_length]; omega) (by rw [two_length]; omega) (by rw [two_length]; omega)
  · right
    have e := tail_turned (shut (two b.length)) (shut b) hH p q r (by omega) (by omega) (by omega)
    have e' : turn3 (frame b) p q r = _ := e
    rw [e']
    constructor
    · rw [List.take_append_of_le_length (by omega), List.take_of_length_le (by omega)]
    · rw [List.drop_append_of_le_length (by omega), List.drop_of_length_le (by omega), List.nil_append]
      exact few_bad b _ _ _ h (by omega) (by omega) (by omega)
end Go.Proofs.Ytncpbmokbnjjoaa.Frm
