/- Plain facts on frames: no program stands in this text. -/
import Derived.Test.YtncpbmokbnjjoaaMath
namespace Go.Proofs.Ytncpbmokbnjjoaa.Frm
open Crc
/-- Two bytes of a length, the lower first; and back. -/
def two (n : Nat) : List UInt8 := [UInt8.ofNat n, UInt8.ofNat (n / 256)]
def told2 : List UInt8 → Nat
  | [a, b] => a.toNat + 256 * b.toNat
  | _ => 0
def frame (b : List UInt8) : List UInt8 := shut (two b.length) ++ shut b
def hd (b : List UInt8) : Nat := told2 (b.take 2)
/-- What is told at the first frame: 0, or the error's number. -/
def err (b : List UInt8) : Nat :=
  if b.length < 6 then 2 else if good (b.take 6) = false then 6 else if 8192 < hd b then 4 else if b.length < 10 + hd b then 2 else if good ((b.drop 6).take (hd b + 4)) = false then 6 else 0
def body (b : List UInt8) : List UInt8 := (b.drop 6).take (hd b)
def size (b : List UInt8) : Nat := 10 + hd b

theorem told2_two (n : Nat) (h : n < 65536) : told2 (two n) = n := by
  simp only [told2, two, UInt8.toNat_ofNat']; omega
theorem told2_lt (b : List UInt8) : told2 b < 65536 := by
  unfold told2; split
  · rename_i a b
    have ha := a.toNat_lt; have hb := b.toNat_lt
    omega
  · omega
theorem hd_lt (b : List UInt8) : hd b < 65536 := told2_lt _
theorem two_length (n : Nat) : (two n).length = 2 := rfl
theorem head_length (n : Nat) : (shut (two n)).length = 6 := by rw [shut_length]; rfl
theorem frame_length (b : List UInt8) : (frame b).length = b.length + 10 := by
  simp only [frame, List.length_append, shut_length, two_length]; omega
theorem hd_of (n : Nat) (h : n < 65536) (c : List UInt8) : hd (shut (two n) ++ c) = n := by
  unfold hd
  rw [List.take_append_of_le_length (by rw [head_length]; omega)]
  have : (shut (two n)).take 2 = two n := by simp [shut, two]
  rw [this, told2_two n h]
theorem take6 (n : Nat) (c : List UInt8) : (shut (two n) ++ c).take 6 = shut (two n) := by
  rw [List.take_append_of_le_length (by rw [head_length]; omega), List.take_of_length_le (by rw [head_length]; omega)]
theorem drop6 (n : Nat) (c : List UInt8) : (shut (two n) ++ c).drop 6 = c := by
  rw [List.drop_append_of_le_length (by rw [head_length]; omega), List.drop_of_length_le (by rw [head_length]; omega)]; rfl
theorem frame_app (b more : List UInt8) : frame b ++ more = shut (two b.length) ++ (shut b ++ more) := by simp [frame]
theorem hd_frame (b more : List UInt8) (h : b.length ≤ 8192) : hd (frame b ++ more) = b.length := by
  rw [frame_app, hd_of _ (by omega)]
theorem size_frame (b more : List UInt8) (h : b.length ≤ 8192) : size (frame b ++ more) = b.length + 10 := by
  unfold size; rw [hd_frame b more h]; omega
theorem rest_frame (b more : List UInt8) : (shut b ++ more).take (b.length + 4) = shut b := by
  rw [List.take_append_of_le_length (by rw [shut_length]; omega), List.take_of_length_le (by rw [shut_length]; omega)]
theorem err_frame (b more : List UInt8) (h : b.length ≤ 8192) : err (frame b ++ more) = 0 := by
  have hl : (frame b ++ more).length = b.length + 10 + more.length := by rw [List.length_append, frame_length]
  unfold err
  rw [if_neg (show ¬ (frame b ++ more).length < 6 by omega), hd_frame b more h, if_neg (show ¬ 8192 < b.length by omega), if_neg (show ¬ (frame b ++ more).length < 10 + b.length by omega), frame_app, take6, drop6, rest_frame, good_shut, good_shut]
  simp
theorem body_frame (b more : List UInt8) (h : b.length ≤ 8192) : body (frame b ++ more) = b := by
  unfold body
  rw [hd_frame b more h, frame_app, drop6]
  have : shut b ++ more = b ++ (low (sum b) ++ more) := by simp [shut]
  rw [this, List.take_append_of_le_length (by omega), List.take_of_length_le (by omega)]
theorem err_ok {b : List UInt8} (h : err b = 0) : 6 ≤ b.length ∧ good (b.take 6) = true ∧ hd b ≤ 8192 ∧ 10 + hd b ≤ b.length ∧ good ((b.drop 6).take (hd b + 4)) = true := by
  unfold err at h
  split at h
  · cases h
  · split at h
    · cases h
    · split at h
      · cases h
      · split at h
        · cases h
        · split at h
          · cases h
          · rename_i h1 h2 h3 h4 h5
            exact ⟨by omega, by simpa using h2, by omega, by omega, by simpa using h5⟩
theorem err_lt (b : List UInt8) : err b ≤ 6 := by
  unfold err; repeat' split
  all_goals omega
theorem body_length {b : List UInt8} (h : err b = 0) : (body b).length = hd b := by
  have := err_ok h
  simp only [body, List.length_take, List.length_drop]; omega
/-- All frames, where the last one ends, the error behind it. -/
def all (b : List UInt8) : List (List UInt8) × Nat × Nat :=
  if _h0 : b = [] then ([], 0, 0)
  else if _h : err b = 0 then
    let r := all (b.drop (size b))
    (body b :: r.1, size b + r.2.1, r.2.2)
  else ([], 0, err b)
termination_by b.length
decreasing_by
  have := err_ok _h
  simp only [List.length_drop, size]; omega
theorem all_nil : all [] = ([], 0, 0) := by rw [all]; simp
theorem all_bad {b : List UInt8} (h : b ≠ []) (he : err b ≠ 0) : all b = ([], 0, err b) := by rw [all]; simp [h, he]
theorem ne_nil {b : List UInt8} (he : err b = 0) : b ≠ [] := by
  intro h; subst h; simp [err] at he
theorem all_good {b : List UInt8} (he : err b = 0) : all b = (body b :: (all (b.drop (size b))).1, size b + (all (b.drop (size b))).2.1, (all (b.drop (size b))).2.2) := by
  rw [all]; simp [ne_nil he, he]
theorem all_short_of (k : Nat) (b : List UInt8) (hk : b.length ≤ k) : ∀ x ∈ (all b).1, x.length ≤ 8192 := by
  induction k generalizing b with
  | zero =>
    obtain rfl : b = [] := List.eq_nil_of_length_eq_zero (by omega)
    rw [all_nil]; simp
  | succ k ih =>
    by_cases h0 : b = []
    · subst h0; rw [all_nil]; simp
    · by_cases h : err b = 0
      · rw [all_good h]
        have ho := err_ok h
        intro x hx
        simp only [List.mem_cons] at hx
        rcases hx with rfl | hx
        · rw [body_length h]; exact ho.2.2.1
        · exact ih _ (by simp only [List.length_drop, size]; omega) x hx
      · rw [all_bad h0 h]; simp
theorem all_short (b : List UInt8) : ∀ x ∈ (all b).1, x.length ≤ 8192 := all_short_of b.length b (Nat.le_refl _)
theorem all_le_of (k : Nat) (b : List UInt8) (hk : b.length ≤ k) : (all b).1.length ≤ b.length ∧ (all b).2.1 ≤ b.length := by
  induction k generalizing b with
  | zero =>
    obtain rfl : b = [] := List.eq_nil_of_length_eq_zero (by omega)
    rw [all_nil]; simp
  | succ k ih =>
    by_cases h0 : b = []
    · subst h0; rw [all_nil]; simp
    · by_cases h : err b = 0
      · rw [all_good h]
        have ho := err_ok h
        have := ih (b.drop (size b)) (by simp only [List.length_drop, size]; omega)
        simp only [List.length_drop] at this
        simp only [List.length_cons]
        unfold size at *
        omega
      · rw [all_bad h0 h]; simp
theorem all_le (b : List UInt8) : (all b).1.length ≤ b.length ∧ (all b).2.1 ≤ b.length := all_le_of b.length b (Nat.le_refl _)
theorem all_frame (b more : List UInt8) (h : b.length ≤ 8192) : all (frame b ++ more) = (b :: (all more).1, b.length + 10 + (all more).2.1, (all more).2.2) := by
  rw [all_good (err_frame b more h), body_frame b more h, size_frame b more h]
  rw [show (frame b ++ more).drop (b.length + 10) = more by rw [List.drop_append_of_le_length (by rw [frame_length]; omega), List.drop_of_length_le (by rw [frame_length]; omega)]; rfl]
def frames (rows : List (List UInt8)) : List UInt8 := (rows.map frame).flatten
theorem frames_snoc (rows : List (List UInt8)) (r : List UInt8) : frames (rows ++ [r]) = frames rows ++ frame r := by simp [frames]
theorem all_frames (rows : List (List UInt8)) (more : List UInt8) (h : ∀ r ∈ rows, r.length ≤ 8192) : all (frames rows ++ more) = (rows ++ (all more).1, (frames rows).length + (all more).2.1, (all more).2.2) := by
  induction rows with
  | nil => simp [frames]
  | cons r t ih =>
    have e : frames (r :: t) ++ more = frame r ++ (frames t ++ more) := by simp [frames]
    rw [e, all_frame r _ (h r (by simp)), ih (fun x hx => h x (by simp [hx]))]
    simp [frames, frame_length]; omega
theorem frames_length (rows : List (List UInt8)) (m k : Nat) (h : ∀ r ∈ rows, r.length ≤ m) (hk : rows.length ≤ k) : (frames rows).length ≤ k * (m + 10) := by
  induction rows generalizing k with
  | nil => simp [frames]
  | cons r t ih =>
    have e : (frames (r :: t)).length = r.length + 10 + (frames t).length := by simp [frames, frame_length]
    obtain ⟨k, rfl⟩ : ∃ j, k = j + 1 := ⟨k - 1, by simp at hk; omega⟩
    have := ih k (fun x hx => h x (by simp [hx])) (by simpa using hk)
    have := h r (by simp)
    rw [e, Nat.succ_mul]; omega
/-- Some of the last bytes are missing. -/
theorem err_cut (b : List UInt8) (h : b.length ≤ 8192) (cut : Nat) (hc : cut < (frame b).length) : err ((frame b).take cut) = 2 := by
  rw [frame_length] at hc
  have hl : ((frame b).take cut).length = cut := by rw [List.length_take, frame_length]; omega
  unfold err
  rw [hl]
  by_cases h6 : cut < 6
  · rw [if_pos h6]
  · have e6 : ((frame b).take cut).take 6 = shut (two b.length) := by
      rw [List.take_take, Nat.min_eq_left (by omega)]
      have := take6 b.length (shut b)
      exact this
    have eh : hd ((frame b).take cut) = b.length := by
      unfold hd
      rw [List.take_take, Nat.min_eq_left (by omega)]
      have := hd_of b.length (by omega) (shut b)
      exact this
    rw [if_neg h6, e6, good_shut, if_neg (by simp), eh, if_neg (by omega), if_pos (by omega)]
theorem all_cut (a b : List UInt8) (ha : a.length ≤ 8192) (hb : b.length ≤ 8192) (cut : Nat) (hc : cut < (frame b).length) :
    all (frame a ++ (frame b).take cut) = ([a], a.length + 10, if cut = 0 then 0 else 2) := by
  rw [all_frame a _ ha]
  by_cases h0 : cut = 0
  · subst h0; simp [all_nil]
  · have hne : (frame b).take cut ≠ [] := by
      intro h
      have hl : ((frame b).take cut).length = cut := by rw [List.length_take]; omega
      rw [h] at hl; exact h0 hl.symm
    rw [all_bad hne (by rw [err_cut b hb cut hc]; decide), err_cut b hb cut hc]
    simp [h0]
/-- Bytes as long as a frame, whose first six or whose others are spoilt. -/
theorem err_spoilt (b c : List UInt8) (h : b.length ≤ 8192) (hl : c.length = b.length + 10)
    (hs : good (c.take 6) = false ∨ (c.take 6 = shut (two b.length) ∧ good (c.drop 6) = false)) : err c = 6 := by
  unfold err
  rw [if_neg (by omega)]
  rcases hs with h1 | ⟨h1, h2⟩
  · rw [if_pos h1]
  · have eh : hd c = b.length := by
      unfold hd
      rw [show c.take 2 = (c.take 6).take 2 by rw [List.take_take]; rfl, h1]
      have : (shut (two b.length)).take 2 = two b.length := by simp [shut, two]
      rw [this, told2_two _ (by omega)]
    rw [h1, good_shut, if_neg (by simp), eh, if_neg (by omega), if_neg (by omega), List.take_of_length_le (by simp; omega), if_pos h2]
theorem turn_app_left (a b : List UInt8) (p : Nat) (h : p < 8 * a.length) : turn (a ++ b) p = turn a p ++ b := by
  unfold turn
  have hp : p / 8 < a.length := by omega
  apply List.ext_getElem?
  intro i
  rw [List.getElem?_modify]
  by_cases hi : i < a.length
  · rw [List.getElem?_append_left hi, List.getElem?_append_left (by simpa using hi), List.getElem?_modify]
  · have hne : ¬ p / 8 = i := by omega
    rw [List.getElem?_append_right (by omega), List.getElem?_append_right (by simp; omega)]; simp [hne]
theorem turn_app_right (a b : List UInt8) (p : Nat) (h : 8 * a.length ≤ p) : turn (a ++ b) p = a ++ turn b (p - 8 * a.length) := by
  unfold turn
  have e1 : (p - 8 * a.length) / 8 = p / 8 - a.length := by omega
  have e2 : (p - 8 * a.length) % 8 = p % 8 := by omega
  apply List.ext_getElem?
  intro i
  rw [e1, e2, List.getElem?_modify]
  by_cases hi : i < a.length
  · have hne : ¬ p / 8 = i := by omega
    rw [List.getElem?_append_left hi, List.getElem?_append_left hi]; simp [hne]
  · rw [List.getElem?_append_right (by omega), List.getElem?_append_right (by omega), List.getElem?_modify]
    by_cases hp : p / 8 = i
    · simp only [hp, if_true]
    · have hq : ¬ p / 8 - a.length = i - a.length := by omega
      simp only [hp, hq, if_false]
end Go.Proofs.Ytncpbmokbnjjoaa.Frm
