/- Plain facts on few turned bits: no program stands in this text. What becomes of a 1 in 0, 1, 2, .. steps: no two of those numbers are one, nor one but for the lowest bit, up to 8040 steps. Checked by the kernel. -/
import Derived.Test.YtncpbmokbnjjoaaMath
namespace Go.Proofs.Ytncpbmokbnjjoaa.Crc

/-- What becomes of x, step by step, without the lowest bit. -/
def walkOf : Nat → Nat → List Nat
  | 0, _ => []
  | k + 1, x => (x / 2) :: walkOf k (step x)
def evens : List Nat → List Nat
  | [] => []
  | x :: t => cond (Nat.beq (x % 2) 0) (x / 2 :: evens t) (evens t)
def odds : List Nat → List Nat
  | [] => []
  | x :: t => cond (Nat.beq (x % 2) 0) (odds t) (x / 2 :: odds t)
/-- Are no two numbers of the list one? Parted by the lowest bit, again and again. -/
def unlike : Nat → List Nat → Bool
  | _, [] => true
  | _, [_] => true
  | 0, _ => false
  | d + 1, l => cond (unlike d (evens l)) (unlike d (odds l)) false

theorem mem_evens (l : List Nat) (x : Nat) (h : x ∈ l) (he : x % 2 = 0) : x / 2 ∈ evens l := by
  induction l with
  | nil => simp at h
  | cons y t ih =>
    simp only [evens]
    rcases List.mem_cons.1 h with rfl | h
    · simp [he]
    · cases hb : Nat.beq (y % 2) 0
      · exact ih h
      · exact List.mem_cons_of_mem _ (ih h)
theorem mem_odds (l : List Nat) (x : Nat) (h : x ∈ l) (he : x % 2 = 1) : x / 2 ∈ odds l := by
  induction l with
  | nil => simp at h
  | cons y t ih =>
    simp only [odds]
    rcases List.mem_cons.1 h with rfl | h
    · have hb : Nat.beq 1 0 = false := rfl
      rw [he, hb]; exact List.mem_cons_self
    · cases hb : Nat.beq (y % 2) 0
      · exact List.mem_cons_of_mem _ (ih h)
      · exact ih h
theorem nodup_parts (l : List Nat) (he : (evens l).Nodup) (ho : (odds l).Nodup) : l.Nodup := by
  induction l with
  | nil => simp
  | cons x t ih =>
    simp only [evens] at he
    simp only [odds] at ho
    rcases Nat.mod_two_eq_zero_or_one x with hx | hx
    · rw [hx] at he ho
      have hb : Nat.beq 0 0 = true := rfl
      simp only [hb, cond_true] at he ho
      rw [List.nodup_cons] at he ⊢
      exact ⟨fun hm => he.1 (mem_evens t x hm hx), ih he.2 ho⟩
    · rw [hx] at he ho
      have hb : Nat.beq 1 0 = false := rfl
      simp only [hb, cond_false] at he ho
      rw [List.nodup_cons] at ho ⊢
      exact ⟨fun hm => ho.1 (mem_odds t x hm hx), ih he ho.2⟩
theorem nodup_of_unlike : ∀ (d : Nat) (l : List Nat), unlike d l = true → l.Nodup
  | _, [], _ => by simp
  | _, [_], _ => by simp
  | 0, _ :: _ :: _, h => by simp [unlike] at h
  | d + 1, x :: y :: t, h => by
    simp only [unlike] at h
    cases he : unlike d (evens (x :: y :: t))
    · rw [he] at h; simp at h
    · rw [he] at h
      exact nodup_parts _ (nodup_of_unlike d _ he) (nodup_of_unlike d _ h)
theorem walkOf_length (n x : Nat) : (walkOf n x).length = n := by
  induction n generalizing x with
  | zero => rfl
  | succ n ih => simp [walkOf, ih]
theorem walkOf_at (n x i : Nat) (h : i < n) : (walkOf n x)[i]? = some (steps i x / 2) := by
  induction n generalizing x i with
  | zero => omega
  | succ n ih =>
    cases i with
    | zero => rfl
    | succ i => simp only [walkOf, List.getElem?_cons_succ, steps]; exact ih _ _ (by omega)
set_option maxRecDepth 1000000 in
theorem unlike_8040 : unlike 32 (walkOf 8040 1) = true := by decide +kernel
theorem half_inj (i j : Nat) (hi : i < 8040) (hj : j < 8040) (h : steps i 1 / 2 = steps j 1 / 2) : i = j := by
  have hn := nodup_of_unlike 32 _ unlike_8040
  have hl := walkOf_length 8040 1
  have H : ∀ a b, a < b → b < 8040 → steps a 1 / 2 ≠ steps b 1 / 2 := by
    intro a b hab hb
    have := List.pairwise_iff_getElem.1 hn a b (by omega) (by omega) hab
    have ea := walkOf_at 8040 1 a (by omega)
    have eb := walkOf_at 8040 1 b hb
    rw [List.getElem?_eq_getElem (by omega)] at ea eb
    rw [Option.some.inj ea, Option.some.inj eb] at this
    exact this
  rcases Nat.lt_trichotomy i j with hlt | rfl | hlt
  · exact absurd h (H i j hlt hj)
  · rfl
  · exact absurd h.symm (H j i hlt hi)
theorem one_xor_half (y : Nat) : (1 ^^^ y) / 2 = y / 2 := by rw [xor_div2]; simp
theorem tri_min (a b c : Nat) (hab : a < b) (hac : a < c) (hbc : b ≠ c) (hb : b < 8040) (hc : c < 8040) : steps a 1 ^^^ steps b 1 ^^^ steps c 1 ≠ 0 := by
  intro h
  have e : steps a (1 ^^^ (steps (b - a) 1 ^^^ steps (c - a) 1)) = 0 := by
    rw [steps_xor, steps_xor, ← steps_add, ← steps_add, show b - a + a = b by omega, show c - a + a = c by omega, ← Nat.xor_assoc]; exact h
  have hlt : 1 ^^^ (steps (b - a) 1 ^^^ steps (c - a) 1) < 4294967296 := xor_lt _ _ (by decide) (xor_lt _ _ (steps_lt _ _ (by decide)) (steps_lt _ _ (by decide)))
  have h0 := steps_inj0 a _ hlt e
  rw [← Nat.xor_assoc] at h0
  have h1 := xor_zero _ _ h0
  have h2 := congrArg (· / 2) h1
  simp only [one_xor_half] at h2
  have := half_inj (b - a) (c - a) (by omega) (by omega) h2
  omega
theorem tri (a b c : Nat) (hab : a ≠ b) (hac : a ≠ c) (hbc : b ≠ c) (ha : a < 8040) (hb : b < 8040) (hc : c < 8040) : steps a 1 ^^^ steps b 1 ^^^ steps c 1 ≠ 0 := by
  by_cases h1 : a < b ∧ a < c
  · exact tri_min a b c h1.1 h1.2 hbc hb hc
  · by_cases h2 : b < a ∧ b < c
    · rw [Nat.xor_comm (steps a 1)]; exact tri_min b a c h2.1 h2.2 hac ha hc
    · rw [Nat.xor_comm, ← Nat.xor_assoc]; exact tri_min c a b (by omega) (by omega) hab ha hb
theorem two (a b : Nat) (hab : a ≠ b) (ha : a < 8040) (hb : b < 8040) : steps a 1 ^^^ steps b 1 ≠ 0 := by
  intro h
  exact hab (half_inj a b ha hb (by rw [xor_zero _ _ h]))
theorem lone (a : Nat) : steps a 1 ≠ 0 := fun h => by have := steps_inj0 a 1 (by decide) h; omega

/-- Bits p, q and r turned, each once. -/
def turn2 (s : List UInt8) (p q : Nat) : List UInt8 := if q ≠ p then turn (turn s p) q else turn s p
def turn3 (s : List UInt8) (p q r : Nat) : List UInt8 := if r ≠ p ∧ r ≠ q then turn (turn2 s p q) r else turn2 s p q
theorem turn2_length (s : List UInt8) (p q : Nat) : (turn2 s p q).length = s.length := by unfold turn2; split <;> simp [turn_length]
theorem turn3_length (s : List UInt8) (p q r : Nat) : (turn3 s p q r).length = s.length := by unfold turn3; split <;> simp [turn_length, turn2_length]
theorem fold_few (c : Nat) (s : List UInt8) (p q r : Nat) (hl : s.length ≤ 1004) (hp : p < 8 * s.length) (hq : q < 8 * s.length) (hr : r < 8 * s.length) : fold c (turn3 s p q r) ≠ fold c s := by
  have key : ∀ d, d ≠ 0 → fold c s ^^^ d ≠ fold c s := by
    intro d hd h
    have := congrArg (fun x => fold c s ^^^ x) h
    simp only [xor_xor, Nat.xor_self] at this
    exact hd this
  have h1 := fold_turn c s p hp
  have h2 : q ≠ p → fold c (turn (turn s p) q) = fold c s ^^^ (steps (8 * s.length - p) 1 ^^^ steps (8 * s.length - q) 1) := by
    intro _
    rw [fold_turn c _ q (by rw [turn_length]; exact hq), h1, turn_length, Nat.xor_assoc]
  unfold turn3
  split
  · rename_i hrr
    rw [fold_turn c _ r (by rw [turn2_length]; exact hr), turn2_length]
    unfold turn2
    split
    · rename_i hqp
      rw [h2 hqp, Nat.xor_assoc]
      exact key _ (tri _ _ _ (by omega) (by omega) (by omega) (by omega) (by omega) (by omega))
    · rw [h1, Nat.xor_assoc]
      exact key _ (two _ _ (by omega) (by omega) (by omega))
  · unfold turn2
    split
    · rename_i hqp
      rw [h2 hqp]
      exact key _ (two _ _ (by omega) (by omega) (by omega))
    · rw [h1]
      exact key _ (lone _)
/-- One, two or three bits turned: what was sealed is not opened. -/
theorem few_bad (bs : List UInt8) (p q r : Nat) (hl : bs.length ≤ 1000) (hp : p < 8 * (bs.length + 4)) (hq : q < 8 * (bs.length + 4)) (hr : r < 8 * (bs.length + 4)) : good (turn3 (shut bs) p q r) = false := by
  have hs := shut_length bs
  rw [Bool.eq_false_iff]
  intro hg
  rw [good_iff _ (by rw [turn3_length, hs]; omega)] at hg
  refine fold_few all1 (shut bs) p q r (by omega) (by omega) (by omega) (by omega) ?_
  rw [hg, (good_iff (shut bs) (by omega)).1 (good_shut bs)]
end Go.Proofs.Ytncpbmokbnjjoaa.Crc
