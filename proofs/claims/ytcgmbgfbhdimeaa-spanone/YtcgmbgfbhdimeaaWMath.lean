/- Package wire as plain mathematics: a number's bytes, and what is read off bytes. No program. -/
import Derived.Lib.BitFns
namespace Wire
/-- A number's bytes: seven bits a byte, the lowest first. -/
def put (n : Nat) : List UInt8 := if n < 128 then [UInt8.ofNat n] else UInt8.ofNat (n % 128 + 128) :: put (n / 128)
termination_by n
theorem put_lo (n : Nat) (h : n < 128) : put n = [UInt8.ofNat n] := by rw [put, if_pos h]
theorem put_hi (n : Nat) (h : 128 ≤ n) : put n = UInt8.ofNat (n % 128 + 128) :: put (n / 128) := by rw [put, if_neg (by omega)]
theorem put_pos (n : Nat) : 1 ≤ (put n).length := by
  by_cases h : n < 128
  · simp [put_lo n h]
  · simp [put_hi n (by omega)]
/-- How many bytes: seven bits a byte. -/
theorem put_len : ∀ n, n < 2 ^ 64 → (put n).length = (Go.Lib.bitLen (n ||| 1) + 6) / 7 := by
  intro n
  induction n using Nat.strongRecOn with
  | _ n ih =>
    intro hn
    by_cases h : n < 128
    · rw [put_lo n h]
      have : ∀ m : Fin 128, 1 = (Go.Lib.bitLen (m.val ||| 1) + 6) / 7 := by decide +kernel
      exact this ⟨n, h⟩
    · rw [put_hi n (by omega), List.length_cons, ih (n / 128) (by omega) (by omega)]
      have e1 : ∀ m, 128 ≤ m → m < 2 ^ 64 → Go.Lib.bitLen (m ||| 1) = Go.Lib.bitLen m := by
        intro m h1 h2
        have hb : m ||| 1 < 2 ^ 64 := Nat.or_lt_two_pow h2 (by decide)
        have hm : (m ||| 1) / 2 = m / 2 := by
          have := Nat.shiftRight_or_distrib (a := m) (b := 1) (i := 1)
          simpa [Nat.shiftRight_eq_div_pow] using this
        rw [Go.Lib.bitLen_half (m ||| 1) (by have := Nat.left_le_or (n := m) (m := 1); omega) hb, hm, ← Go.Lib.bitLen_half m (by omega) h2]
      have e2 : Go.Lib.bitLen n = 7 + Go.Lib.bitLen (n / 128) := Go.Lib.bitLen_shift 7 n (by omega) hn
      rw [e1 n (by omega) hn, e2]
      by_cases h2 : n / 128 < 128
      · have : ∀ m : Fin 128, 0 < m.val → (Go.Lib.bitLen (m.val ||| 1) + 6) / 7 + 1 = (7 + Go.Lib.bitLen m.val + 6) / 7 := by decide +kernel
        exact this ⟨n / 128, h2⟩ (by show 0 < n / 128; omega)
      · rw [e1 (n / 128) (by omega) (by omega)]; omega
theorem put_len_le (n : Nat) (h : n < 2 ^ 64) : (put n).length ≤ 10 := by
  rw [put_len n h]
  have := Go.Lib.bitLen_le (n ||| 1) 64 (by decide) (Nat.or_lt_two_pow h (by decide))
  omega

/-- May a byte be a number's last one, at that place? -/
def mayEnd (x p : Nat) : Bool := if p = 9 then x == 1 else (x != 0 || p == 0)
/-- What is read, from a place on: the number, behind which byte, the error. -/
def scan : Nat → Nat → Nat → List UInt8 → Nat × Nat × Nat
  | 0, _, _, _ => (0, 0, 3)
  | _ + 1, _, _, [] => (0, 0, 2)
  | f + 1, p, acc, x :: r =>
    if 128 ≤ x.toNat then scan f (p + 1) (acc + x.toNat % 128 * 128 ^ p) r
    else if mayEnd x.toNat p then (acc + x.toNat * 128 ^ p, p + 1, 0) else (0, 0, 3)
def num (bs : List UInt8) : Nat × Nat × Nat := scan 10 0 0 bs

theorem scan_err : ∀ (f p acc : Nat) (bs : List UInt8), (scan f p acc bs).2.2 = 0 ∨ ((scan f p acc bs).1 = 0 ∧ (scan f p acc bs).2.1 = 0 ∧ ((scan f p acc bs).2.2 = 2 ∨ (scan f p acc bs).2.2 = 3))
  | 0, _, _, _ => by simp [scan]
  | _ + 1, _, _, [] => by simp [scan]
  | f + 1, p, acc, x :: r => by
    rw [scan]
    split
    · exact scan_err f (p + 1) _ r
    · split <;> simp
/-- What is read was laid just so. -/
theorem scan_ok : ∀ (f p acc : Nat) (bs : List UInt8), f + p = 10 → (scan f p acc bs).2.2 = 0 →
    ∃ m j, (scan f p acc bs).1 = acc + m * 128 ^ p ∧ (scan f p acc bs).2.1 = p + j ∧ 1 ≤ j ∧ j ≤ bs.length ∧ put m = bs.take j ∧ (0 < p → 0 < m) ∧ m < 2 ^ (64 - 7 * p)
  | 0, _, _, _ => by simp [scan]
  | _ + 1, _, _, [] => by simp [scan]
  | f + 1, p, acc, x :: r => by
    intro hf
    rw [scan]
    split
    · rename_i hx
      intro he
      obtain ⟨m, j, h1, h2, h3, h4, h5, h6, h7⟩ := scan_ok f (p + 1) (acc + x.toNat % 128 * 128 ^ p) r (by omega) he
      have hm := h6 (by omega)
      have hp : p ≤ 8 := by
        rcases Nat.lt_or_ge p 9 with h | h
        · omega
        · obtain rfl : f = 0 := by omega
          simp [scan] at he
      have hxl := x.toNat_lt
      refine ⟨x.toNat % 128 + 128 * m, j + 1, ?_, by rw [h2]; omega, by omega, by simp; omega, ?_, fun _ => by omega, ?_⟩
      · rw [h1, Nat.pow_succ, Nat.add_mul, Nat.add_assoc, Nat.mul_comm (128 ^ p) 128, ← Nat.mul_assoc, Nat.mul_comm m 128]
      · rw [put_hi _ (by omega), show (x.toNat % 128 + 128 * m) % 128 + 128 = x.toNat by omega, show (x.toNat % 128 + 128 * m) / 128 = m by omega, h5]
        simp
      · have e : 64 - 7 * p = (64 - 7 * (p + 1)) + 7 := by omega
        rw [e, Nat.pow_add]
        omega
    · rename_i hx
      split
      · rename_i hm
        intro _
        refine ⟨x.toNat, 1, rfl, rfl, by omega, by simp, ?_, ?_, ?_⟩
        · rw [put_lo _ (by omega)]; simp
        · intro hp
          unfold mayEnd at hm
          by_cases h9 : p = 9
          · simp [h9] at hm; omega
          · simp [h9] at hm
            rcases Nat.eq_zero_or_pos x.toNat with h0 | h0
            · rcases hm with hm | hm
              · exact absurd h0 hm
              · omega
            · exact h0
        · unfold mayEnd at hm
          by_cases h9 : p = 9
          · simp [h9] at hm
            subst h9; omega
          · have : 2 ^ 7 ≤ 2 ^ (64 - 7 * p) := Nat.pow_le_pow_right (by decide) (by omega)
            omega
      · simp
/-- What was laid is read. -/
theorem scan_put : ∀ (f p acc m : Nat) (r : List UInt8), f + p = 10 → m < 2 ^ (64 - 7 * p) → (0 < p → 0 < m) → p ≤ 9 → scan f p acc (put m ++ r) = (acc + m * 128 ^ p, p + (put m).length, 0)
  | 0, _, _, _, _ => by omega
  | f + 1, p, acc, m, r => by
    intro hf hm h0 hp
    by_cases h : m < 128
    · rw [put_lo m h, List.singleton_append, scan]
      have hx : (UInt8.ofNat m).toNat = m := by simp; omega
      rw [hx, if_neg (by omega), if_pos]
      · simp
      · unfold mayEnd
        by_cases h9 : p = 9
        · subst h9
          have := h0 (by omega)
          simp only [if_true, beq_iff_eq]; omega
        · rw [if_neg h9]
          rcases Nat.eq_zero_or_pos p with hp0 | hp0
          · simp [hp0]
          · have := h0 hp0
            simp; omega
    · have hp8 : p ≤ 8 := by
        rcases Nat.lt_or_ge p 9 with h9 | h9
        · omega
        · obtain rfl : p = 9 := by omega
          simp at hm; omega
      rw [put_hi m (by omega), List.cons_append, scan]
      have hx : (UInt8.ofNat (m % 128 + 128)).toNat = m % 128 + 128 := by simp; omega
      rw [hx, if_pos (by omega), scan_put f (p + 1) _ (m / 128) r (by omega) ?_ (fun _ => by omega) (by omega)]
      · have : acc + (m % 128 + 128) % 128 * 128 ^ p + m / 128 * 128 ^ (p + 1) = acc + m * 128 ^ p := by
          rw [Nat.pow_succ, Nat.mul_comm (128 ^ p) 128, ← Nat.mul_assoc, Nat.add_assoc, ← Nat.add_mul]
          congr 2; omega
        rw [this]
        simp; omega
      · have e : 64 - 7 * p = (64 - 7 * (p + 1)) + 7 := by omega
        rw [e, Nat.pow_add] at hm
        omega
theorem num_put (m : Nat) (h : m < 2 ^ 64) (r : List UInt8) : num (put m ++ r) = (m, (put m).length, 0) := by
  have := scan_put 10 0 0 m r rfl h (by omega) (by omega)
  simpa [num] using this
theorem num_ok (bs : List UInt8) (h : (num bs).2.2 = 0) : put (num bs).1 = bs.take (num bs).2.1 ∧ 1 ≤ (num bs).2.1 ∧ (num bs).2.1 ≤ bs.length ∧ (num bs).1 < 2 ^ 64 := by
  obtain ⟨m, j, h1, h2, h3, h4, h5, _, h7⟩ := scan_ok 10 0 0 bs rfl h
  have e1 : (num bs).1 = m := by simpa [num] using h1
  have e2 : (num bs).2.1 = j := by simpa [num] using h2
  rw [e1, e2]
  exact ⟨h5, h3, h4, by simpa using h7⟩
theorem num_bad (bs : List UInt8) (h : (num bs).2.2 ≠ 0) : (num bs).1 = 0 ∧ (num bs).2.1 = 0 ∧ ((num bs).2.2 = 2 ∨ (num bs).2.2 = 3) := by
  rcases scan_err 10 0 0 bs with h' | h'
  · exact absurd h' h
  · exact h'
theorem num_lt (bs : List UInt8) : (num bs).1 < 2 ^ 64 := by
  by_cases h : (num bs).2.2 = 0
  · exact (num_ok bs h).2.2.2
  · rw [(num_bad bs h).1]; decide
theorem num_le (bs : List UInt8) : (num bs).2.1 ≤ bs.length := by
  by_cases h : (num bs).2.2 = 0
  · exact (num_ok bs h).2.2.1
  · rw [(num_bad bs h).2.1]; omega
theorem num_nil : num [] = (0, 0, 2) := rfl
theorem num_put_len (m : Nat) (h : m < 2 ^ 64) : num (put m) = (m, (put m).length, 0) := by
  have := num_put m h []
  simpa using this

/-- The number that stands for an int. -/
def zig (n : Int) : Nat := if n < 0 then 2 * (-1 - n).toNat + 1 else 2 * n.toNat
/-- The int that a number stands for. -/
def zag (n : Nat) : Int := if n % 2 = 1 then -1 - ((n / 2 : Nat) : Int) else ((n / 2 : Nat) : Int)
theorem zag_zig (n : Int) : zag (zig n) = n := by
  unfold zag zig
  by_cases h : n < 0
  · rw [if_pos h, if_pos (by omega)]; omega
  · rw [if_neg h, if_neg (by omega)]; omega
theorem zig_zag (n : Nat) : zig (zag n) = n := by
  unfold zag zig
  by_cases h : n % 2 = 1
  · rw [if_pos h, if_pos (by omega)]; omega
  · rw [if_neg h, if_neg (by omega)]; omega
theorem zig_lt (n : Int) (h1 : -9223372036854775808 ≤ n) (h2 : n ≤ 9223372036854775807) : zig n < 2 ^ 64 := by
  unfold zig
  split <;> omega
theorem zag_bd (n : Nat) (h : n < 2 ^ 64) : -9223372036854775808 ≤ zag n ∧ zag n ≤ 9223372036854775807 := by
  unfold zag
  split <;> omega
theorem zag_zero : zag 0 = 0 := rfl
/-- A text's bytes. -/
def text (s : List UInt8) : List UInt8 := put s.length ++ s

/-- A scan: what is left, and the error. -/
structure St where
  rest : List UInt8
  err : Int
def St.fail (s : St) (e : Int) : St := if s.err = 0 ∧ e ≠ 0 then ⟨[], e⟩ else s
/-- May a scan be so? Behind an error nothing is left. -/
def St.fine (s : St) : Prop := s.err ≠ 0 → s.rest = []
def St.numS (s : St) : St := if (num s.rest).2.2 = 0 then ⟨s.rest.drop (num s.rest).2.1, s.err⟩ else s.fail (num s.rest).2.2
def St.numV (s : St) : Nat := (num s.rest).1
/-- Is what Upto reads above what it may be? -/
def St.over (s : St) (most : Int) : Bool := most < 0 || most < (s.numV : Int)
def St.uptoS (s : St) (most : Int) : St := if s.over most then s.numS.fail 4 else s.numS
def St.uptoV (s : St) (most : Int) : Nat := if s.over most then 0 else s.numV
def St.textS (s : St) (most : Int) : St :=
  if (s.uptoS most).rest.length < s.uptoV most then (s.uptoS most).fail 2 else ⟨(s.uptoS most).rest.drop (s.uptoV most), (s.uptoS most).err⟩
def St.textV (s : St) (most : Int) : List UInt8 :=
  if (s.uptoS most).rest.length < s.uptoV most then [] else (s.uptoS most).rest.take (s.uptoV most)
def St.endE (s : St) : Int := if s.err = 0 ∧ 0 < s.rest.length then 5 else s.err
theorem St.fail_fine {s : St} (h : s.fine) (e : Int) : (s.fail e).fine := by
  unfold St.fail
  split
  · intro _; rfl
  · exact h
theorem St.numS_fine {s : St} (h : s.fine) : s.numS.fine := by
  unfold St.numS
  split
  · intro he
    have := h he
    simp [this]
  · exact St.fail_fine h _
theorem St.uptoS_fine {s : St} (h : s.fine) (m : Int) : (s.uptoS m).fine := by
  unfold St.uptoS
  split
  · exact St.fail_fine (St.numS_fine h) _
  · exact St.numS_fine h
theorem St.textS_fine {s : St} (h : s.fine) (m : Int) : (s.textS m).fine := by
  unfold St.textS
  split
  · exact St.fail_fine (St.uptoS_fine h m) _
  · intro he
    have := St.uptoS_fine h m he
    simp [this]
/-- Of bytes a text is read, or there is an error, and nothing is left. -/
theorem St.text_or (b : List UInt8) (m : Int) :
    (((St.mk b 0).textS m).err ≠ 0 ∧ ((St.mk b 0).textS m).rest = [] ∧ (St.mk b 0).textV m = []) ∨
    (∃ j, j ≤ b.length ∧ (St.mk b 0).textS m = ⟨b.drop j, 0⟩ ∧ text ((St.mk b 0).textV m) = b.take j ∧ (num b).2.2 = 0) := by
  by_cases he : (num b).2.2 = 0
  · have hS : (St.mk b 0).numS = ⟨b.drop (num b).2.1, 0⟩ := by unfold St.numS; simp only; rw [if_pos he]
    have hV : (St.mk b 0).numV = (num b).1 := rfl
    obtain ⟨h1, h2, h3, h4⟩ := num_ok b he
    cases ho : (St.mk b 0).over m with
    | true =>
      left
      have e1 : (St.mk b 0).uptoS m = ⟨[], 4⟩ := by unfold St.uptoS; rw [if_pos ho, hS]; rfl
      have e2 : (St.mk b 0).uptoV m = 0 := by unfold St.uptoV; rw [if_pos ho]
      refine ⟨?_, ?_, ?_⟩
      · unfold St.textS; rw [e1, e2]; simp
      · unfold St.textS; rw [e1, e2]; simp
      · unfold St.textV; rw [e1, e2]; simp
    | false =>
      have e1 : (St.mk b 0).uptoS m = ⟨b.drop (num b).2.1, 0⟩ := by unfold St.uptoS; rw [if_neg (by rw [ho]; simp), hS]
      have e2 : (St.mk b 0).uptoV m = (num b).1 := by unfold St.uptoV; rw [if_neg (by rw [ho]; simp), hV]
      by_cases hl : (b.drop (num b).2.1).length < (num b).1
      · left
        refine ⟨?_, ?_, ?_⟩
        · unfold St.textS; rw [e1, e2, if_pos hl]; simp [St.fail]
        · unfold St.textS; rw [e1, e2, if_pos hl]; simp [St.fail]
        · unfold St.textV; rw [e1, e2, if_pos hl]
      · right
        rw [List.length_drop] at hl
        refine ⟨(num b).2.1 + (num b).1, by omega, ?_, ?_, he⟩
        · unfold St.textS; rw [e1, e2, if_neg (by rw [List.length_drop]; exact hl)]; simp [List.drop_drop]
        · have e3 : (St.mk b 0).textV m = (b.drop (num b).2.1).take (num b).1 := by unfold St.textV; rw [e1, e2, if_neg (by rw [List.length_drop]; exact hl)]
          have e4 : ((b.drop (num b).2.1).take (num b).1).length = (num b).1 := by rw [List.length_take, List.length_drop]; omega
          rw [e3, text, e4, h1, ← List.take_add]
  · left
    obtain ⟨b1, b2, b3⟩ := num_bad b he
    have hS : (St.mk b 0).numS = ⟨[], ((num b).2.2 : Nat)⟩ := by
      unfold St.numS; simp only; rw [if_neg he]; unfold St.fail; rw [if_pos ⟨rfl, by omega⟩]
    have hV : (St.mk b 0).numV = 0 := b1
    have e1 : (St.mk b 0).uptoS m = ⟨[], ((num b).2.2 : Nat)⟩ := by
      unfold St.uptoS
      split
      · rw [hS]; unfold St.fail; rw [if_neg (by simp; omega)]
      · exact hS
    have e2 : (St.mk b 0).uptoV m = 0 := by
      unfold St.uptoV
      split
      · rfl
      · exact hV
    refine ⟨?_, ?_, ?_⟩
    · unfold St.textS; rw [e1, e2]; simp; omega
    · unfold St.textS; rw [e1, e2]; simp
    · unfold St.textV; rw [e1, e2]; simp
theorem St.num_or (b : List UInt8) :
    (((St.mk b 0).numS).err ≠ 0 ∧ ((St.mk b 0).numS).rest = [] ∧ (num b).2.2 ≠ 0) ∨
    (∃ j, j ≤ b.length ∧ (St.mk b 0).numS = ⟨b.drop j, 0⟩ ∧ put ((St.mk b 0).numV) = b.take j ∧ (num b).2.2 = 0) := by
  by_cases he : (num b).2.2 = 0
  · right
    obtain ⟨h1, h2, h3, h4⟩ := num_ok b he
    refine ⟨(num b).2.1, h3, ?_, h1, he⟩
    unfold St.numS; simp only; rw [if_pos he]
  · left
    have hS : (St.mk b 0).numS = ⟨[], ((num b).2.2 : Nat)⟩ := by
      unfold St.numS; simp only; rw [if_neg he]; unfold St.fail; rw [if_pos ⟨rfl, by omega⟩]
    rw [hS]
    exact ⟨by simp; omega, rfl, he⟩
end Wire
