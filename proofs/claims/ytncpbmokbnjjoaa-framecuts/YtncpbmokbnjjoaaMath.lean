/- Plain facts on sums of thirty-two bits: no program stands in this text. -/
namespace Go.Proofs.Ytncpbmokbnjjoaa.Crc

def step (n : Nat) : Nat := if n % 2 = 1 then n / 2 ^^^ 3988292384 else n / 2
def steps : Nat → Nat → Nat
  | 0, n => n
  | k + 1, n => steps k (step n)
def so (n : Nat) : Nat := steps 8 n
def upd (r : Nat) (x : UInt8) : Nat := so ((r % 256) ^^^ x.toNat) ^^^ (r / 256)
def fold (r : Nat) (bs : List UInt8) : Nat := bs.foldl upd r
def all1 : Nat := 4294967295
def add (s : Nat) (bs : List UInt8) : Nat := all1 ^^^ fold (all1 ^^^ s) bs
def sum (bs : List UInt8) : Nat := add 0 bs
def low (n : Nat) : List UInt8 := [UInt8.ofNat n, UInt8.ofNat (n / 256), UInt8.ofNat (n / 65536), UInt8.ofNat (n / 16777216)]
def told : List UInt8 → Nat
  | [a, b, c, d] => a.toNat + 256 * b.toNat + 65536 * c.toNat + 16777216 * d.toNat
  | _ => 0
def shut (bs : List UInt8) : List UInt8 := bs ++ low (sum bs)
def good (bs : List UInt8) : Bool := decide (4 ≤ bs.length) && (sum (bs.take (bs.length - 4)) == told (bs.drop (bs.length - 4)))

theorem xor_div2 (a b : Nat) : (a ^^^ b) / 2 = a / 2 ^^^ b / 2 := by
  apply Nat.eq_of_testBit_eq; intro i
  simp [Nat.testBit_xor, Nat.testBit_div_two]
theorem xor_mod2 (a b : Nat) : (a ^^^ b) % 2 = (a % 2 + b % 2) % 2 := by
  have h := Nat.testBit_xor a b 0
  simp only [Nat.testBit_zero] at h
  rcases Nat.mod_two_eq_zero_or_one a with ha | ha <;> rcases Nat.mod_two_eq_zero_or_one b with hb | hb <;>
    rcases Nat.mod_two_eq_zero_or_one (a ^^^ b) with hc | hc <;> simp_all
theorem xor_mul (k q s : Nat) (h : s < 2 ^ k) : 2 ^ k * q ^^^ s = 2 ^ k * q + s := by
  apply Nat.eq_of_testBit_eq; intro i
  rw [Nat.testBit_xor, Nat.testBit_two_pow_mul_add _ h, Nat.testBit_two_pow_mul]
  by_cases hi : i < k
  · simp [hi, Nat.not_le.2 hi]
  · have : s.testBit i = false := Nat.testBit_lt_two_pow (Nat.lt_of_lt_of_le h (Nat.pow_le_pow_right (by decide) (by omega)))
    simp [hi, this]; omega

theorem xor_xor (a b : Nat) : a ^^^ (a ^^^ b) = b := by rw [← Nat.xor_assoc, Nat.xor_self, Nat.zero_xor]
theorem xor_zero (a b : Nat) (h : a ^^^ b = 0) : a = b := by
  have := congrArg (fun x => a ^^^ x) h
  simp only [xor_xor, Nat.xor_zero] at this
  exact this.symm

theorem step_xor (a b : Nat) : step (a ^^^ b) = step a ^^^ step b := by
  unfold step
  rw [xor_mod2, xor_div2]
  rcases Nat.mod_two_eq_zero_or_one a with ha | ha <;> rcases Nat.mod_two_eq_zero_or_one b with hb | hb <;> simp [ha, hb]
  · rw [Nat.xor_assoc]
  · rw [Nat.xor_assoc, Nat.xor_assoc, Nat.xor_comm (b / 2)]
  · rw [Nat.xor_assoc, Nat.xor_comm 3988292384, Nat.xor_assoc, Nat.xor_self, Nat.xor_zero]
theorem step_zero : step 0 = 0 := by simp [step]
theorem step_even (n : Nat) : step (2 * n) = n := by unfold step; rw [if_neg (by omega)]; omega
theorem step_lt (n : Nat) (h : n < 4294967296) : step n < 4294967296 := by
  unfold step; split
  · exact Nat.xor_lt_two_pow (n := 32) (by omega) (by decide)
  · omega
theorem step_inj (n : Nat) (h : n < 4294967296) (h0 : step n = 0) : n = 0 := by
  unfold step at h0; split at h0
  · have := xor_zero _ _ h0; omega
  · omega
theorem steps_add (i j n : Nat) : steps (i + j) n = steps j (steps i n) := by
  induction i generalizing n with
  | zero => simp [steps]
  | succ i ih => rw [Nat.succ_add]; simp only [steps]; exact ih _
theorem steps_xor (k a b : Nat) : steps k (a ^^^ b) = steps k a ^^^ steps k b := by
  induction k generalizing a b with
  | zero => rfl
  | succ k ih => simp only [steps]; rw [step_xor, ih]
theorem steps_zero (k : Nat) : steps k 0 = 0 := by
  induction k with
  | zero => rfl
  | succ k ih => simp only [steps]; rw [step_zero, ih]
theorem steps_lt (k n : Nat) (h : n < 4294967296) : steps k n < 4294967296 := by
  induction k generalizing n with
  | zero => exact h
  | succ k ih => simp only [steps]; exact ih _ (step_lt n h)
theorem steps_inj0 (k n : Nat) (h : n < 4294967296) (h0 : steps k n = 0) : n = 0 := by
  induction k generalizing n with
  | zero => exact h0
  | succ k ih => simp only [steps] at h0; exact step_inj n h (ih _ (step_lt n h) h0)
theorem xor_lt (a b : Nat) (ha : a < 4294967296) (hb : b < 4294967296) : a ^^^ b < 4294967296 := Nat.xor_lt_two_pow (n := 32) ha hb
theorem steps_inj (k a b : Nat) (ha : a < 4294967296) (hb : b < 4294967296) (h : steps k a = steps k b) : a = b := by
  have : steps k (a ^^^ b) = 0 := by rw [steps_xor, h, Nat.xor_self]
  exact xor_zero _ _ (steps_inj0 k _ (xor_lt a b ha hb) this)
theorem steps_pow (k n : Nat) : steps k (2 ^ k * n) = n := by
  induction k generalizing n with
  | zero => simp [steps]
  | succ k ih =>
    simp only [steps]
    rw [show 2 ^ (k + 1) * n = 2 * (2 ^ k * n) by rw [Nat.pow_succ, Nat.mul_comm (2 ^ k) 2, Nat.mul_assoc], step_even]
    exact ih n
theorem so_lt (n : Nat) (h : n < 4294967296) : so n < 4294967296 := steps_lt 8 n h

theorem upd_eq (r : Nat) (x : UInt8) : upd r x = steps 8 (r ^^^ x.toNat) := by
  have hr : r = 2 ^ 8 * (r / 256) ^^^ (r % 256) := by
    rw [xor_mul 8 _ _ (by omega)]; omega
  conv => rhs; rw [hr, Nat.xor_assoc, steps_xor, steps_pow]
  unfold upd so
  rw [Nat.xor_comm]
theorem byte_lt (x : UInt8) : x.toNat < 4294967296 := by have := x.toNat_lt; omega
theorem upd_lt (r : Nat) (x : UInt8) (h : r < 4294967296) : upd r x < 4294967296 := by
  rw [upd_eq]; exact steps_lt _ _ (xor_lt _ _ h (byte_lt x))
theorem fold_lt (r : Nat) (bs : List UInt8) (h : r < 4294967296) : fold r bs < 4294967296 := by
  unfold fold
  induction bs generalizing r with
  | nil => exact h
  | cons x t ih => exact ih _ (upd_lt r x h)
theorem fold_append (r : Nat) (a b : List UInt8) : fold r (a ++ b) = fold (fold r a) b := List.foldl_append ..
theorem fold_cons (r : Nat) (x : UInt8) (b : List UInt8) : fold r (x :: b) = fold (upd r x) b := rfl
theorem all1_lt : all1 < 4294967296 := by decide
theorem add_lt (s : Nat) (bs : List UInt8) (h : s < 4294967296) : add s bs < 4294967296 := xor_lt _ _ all1_lt (fold_lt _ _ (xor_lt _ _ all1_lt h))
theorem sum_lt (bs : List UInt8) : sum bs < 4294967296 := add_lt 0 bs (by decide)
/-- Bytes are summed piece by piece. -/
theorem add_add (s : Nat) (a b : List UInt8) : add (add s a) b = add s (a ++ b) := by
  unfold add; rw [xor_xor, fold_append]

theorem low_length (n : Nat) : (low n).length = 4 := rfl
theorem shut_length (bs : List UInt8) : (shut bs).length = bs.length + 4 := by simp [shut, low]
theorem told_low (n : Nat) (h : n < 4294967296) : told (low n) = n := by
  simp only [told, low, UInt8.toNat_ofNat']; omega
theorem low_told (b : List UInt8) (h : b.length = 4) : low (told b) = b := by
  match b, h with
  | [a, b, c, d], _ =>
    have ha := a.toNat_lt; have hb := b.toNat_lt; have hc := c.toNat_lt; have hd := d.toNat_lt
    simp only [told, low, List.cons.injEq, and_true, ← UInt8.toNat_inj, UInt8.toNat_ofNat']
    omega
theorem told_lt (b : List UInt8) : told b < 4294967296 := by
  unfold told; split
  · rename_i a b c d
    have ha := a.toNat_lt; have hb := b.toNat_lt; have hc := c.toNat_lt; have hd := d.toNat_lt
    omega
  · omega
theorem good_shut (bs : List UInt8) : good (shut bs) = true := by
  unfold good
  rw [shut_length]
  simp [shut, told_low _ (sum_lt bs)]
theorem shut_take (bs : List UInt8) : (shut bs).take ((shut bs).length - 4) = bs := by rw [shut_length]; simp [shut]
theorem shut_of_good (c : List UInt8) (h : good c = true) : shut (c.take (c.length - 4)) = c := by
  unfold good at h
  simp at h
  unfold shut
  rw [h.2, low_told _ (by simp; omega), List.take_append_drop]

/-- Four bytes behind a sum. -/
theorem fold_four (r : Nat) (b : List UInt8) (h : b.length = 4) : fold r b = steps 32 (r ^^^ told b) := by
  match b, h with
  | [a, b, c, d], _ =>
    have ha := a.toNat_lt; have hb := b.toNat_lt; have hc := c.toNat_lt; have hd := d.toNat_lt
    simp only [fold, List.foldl, told]
    have e : a.toNat + 256 * b.toNat + 65536 * c.toNat + 16777216 * d.toNat = a.toNat ^^^ (2 ^ 8 * b.toNat ^^^ (2 ^ 16 * c.toNat ^^^ 2 ^ 24 * d.toNat)) := by
      rw [Nat.xor_comm (2 ^ 16 * c.toNat), show 2 ^ 24 * d.toNat = 2 ^ 24 * d.toNat from rfl, xor_mul 24 _ _ (by omega)]
      rw [show 2 ^ 24 * d.toNat + 2 ^ 16 * c.toNat = 2 ^ 16 * (2 ^ 8 * d.toNat + c.toNat) by omega, Nat.xor_comm (2 ^ 8 * b.toNat), xor_mul 16 _ _ (by omega)]
      rw [show 2 ^ 16 * (2 ^ 8 * d.toNat + c.toNat) + 2 ^ 8 * b.toNat = 2 ^ 8 * (2 ^ 8 * (2 ^ 8 * d.toNat + c.toNat) + b.toNat) by omega, Nat.xor_comm a.toNat, xor_mul 8 _ _ (by omega)]
      omega
    rw [e]
    rw [upd_eq, upd_eq, upd_eq, upd_eq]
    rw [show (32 : Nat) = 8 + (8 + (8 + 8)) from rfl, steps_add, steps_add, steps_add, ← Nat.xor_assoc, steps_xor 8 (r ^^^ a.toNat), steps_xor 8 (2 ^ 8 * b.toNat), steps_pow,
      steps_xor 8 (2 ^ 16 * c.toNat), show 2 ^ 16 * c.toNat = 2 ^ 8 * (2 ^ 8 * c.toNat) by omega, show 2 ^ 24 * d.toNat = 2 ^ 8 * (2 ^ 8 * (2 ^ 8 * d.toNat)) by omega, steps_pow, steps_pow]
    rw [← Nat.xor_assoc, steps_xor 8 (steps 8 (r ^^^ a.toNat) ^^^ b.toNat), steps_xor 8 (2 ^ 8 * c.toNat), steps_pow, steps_pow]
    rw [← Nat.xor_assoc, steps_xor 8 (steps 8 (steps 8 (r ^^^ a.toNat) ^^^ b.toNat) ^^^ c.toNat), steps_pow]

/-- What is sealed, told by its remainder alone. -/
theorem good_iff (c : List UInt8) (h : 4 ≤ c.length) : good c = true ↔ fold all1 c = steps 32 all1 := by
  have hc : fold all1 c = steps 32 (fold all1 (c.take (c.length - 4)) ^^^ told (c.drop (c.length - 4))) := by
    conv => lhs; rw [← List.take_append_drop (c.length - 4) c]
    rw [fold_append, fold_four _ _ (by simp; omega)]
  rw [hc]
  have hf := fold_lt all1 (c.take (c.length - 4)) all1_lt
  have ht := told_lt (c.drop (c.length - 4))
  unfold good sum add
  rw [Nat.xor_zero]
  constructor
  · intro hg
    simp at hg
    rw [← hg.2, Nat.xor_comm, Nat.xor_assoc, Nat.xor_self, Nat.xor_zero]
  · intro he
    have := steps_inj 32 _ _ (xor_lt _ _ hf ht) all1_lt he
    simp only [h, decide_true, Bool.true_and, beq_iff_eq]
    generalize fold all1 (c.take (c.length - 4)) = f at *
    rw [← this, Nat.xor_comm, xor_xor]

/-- One bit of bytes, turned: bit by bit of a byte from the lowest on. -/
def turn (bs : List UInt8) (p : Nat) : List UInt8 := bs.modify (p / 8) (· ^^^ UInt8.ofNat (2 ^ (p % 8)))
theorem turn_length (bs : List UInt8) (p : Nat) : (turn bs p).length = bs.length := by simp [turn]
theorem fold_xor (r d : Nat) (bs : List UInt8) : fold (r ^^^ d) bs = fold r bs ^^^ steps (8 * bs.length) d := by
  induction bs generalizing r d with
  | nil => rfl
  | cons x t ih =>
    rw [fold_cons, fold_cons, upd_eq, upd_eq, Nat.xor_assoc, Nat.xor_comm d, ← Nat.xor_assoc, steps_xor 8 _ d, ih, List.length_cons, show 8 * (t.length + 1) = 8 + 8 * t.length by omega, steps_add]
theorem steps_two (i j : Nat) (h : i ≤ j) : steps j (2 ^ i) = steps (j - i) 1 := by
  have := steps_pow i 1
  rw [Nat.mul_one] at this
  rw [show j = i + (j - i) by omega, steps_add, this]; congr 1; omega
theorem pow_byte (p : Nat) : (UInt8.ofNat (2 ^ (p % 8))).toNat = 2 ^ (p % 8) := by
  rw [UInt8.toNat_ofNat']
  exact Nat.mod_eq_of_lt (Nat.pow_lt_pow_right (by decide) (by omega))
theorem fold_turn (r : Nat) (bs : List UInt8) (p : Nat) (h : p < 8 * bs.length) : fold r (turn bs p) = fold r bs ^^^ steps (8 * bs.length - p) 1 := by
  induction bs generalizing r p with
  | nil => simp at h
  | cons x t ih =>
    by_cases hp : p < 8
    · have e : turn (x :: t) p = (x ^^^ UInt8.ofNat (2 ^ (p % 8))) :: t := by simp [turn, show p / 8 = 0 by omega]
      rw [e, fold_cons, fold_cons, upd_eq, upd_eq, UInt8.toNat_xor, pow_byte, ← Nat.xor_assoc, steps_xor 8 _ (2 ^ (p % 8)), fold_xor, ← steps_add, List.length_cons,
        show p % 8 = p by omega, steps_two p _ (by omega), show 8 + 8 * t.length = 8 * (t.length + 1) by omega]
    · have e : turn (x :: t) p = x :: turn t (p - 8) := by
        simp only [turn, show p / 8 = (p - 8) / 8 + 1 by omega, List.modify_succ_cons, show (p - 8) % 8 = p % 8 by omega]
      simp only [List.length_cons] at h
      rw [e, fold_cons, fold_cons, ih _ _ (by omega), List.length_cons, show 8 * t.length - (p - 8) = 8 * (t.length + 1) - p by omega]

/-- Bits at, at + 1, .. turned, where the mask has a 1: the first k of them. -/
def burst (bs : List UInt8) (at' mask : Nat) : Nat → List UInt8
  | 0 => bs
  | k + 1 => if mask / 2 ^ k % 2 = 1 then turn (burst bs at' mask k) (at' + k) else burst bs at' mask k
theorem burst_length (bs : List UInt8) (at' mask k : Nat) : (burst bs at' mask k).length = bs.length := by
  induction k with
  | zero => rfl
  | succ k ih => simp only [burst]; split <;> simp [turn_length, ih]
theorem mod_succ (m k : Nat) : m % 2 ^ (k + 1) = (m % 2 ^ k) ^^^ (if m / 2 ^ k % 2 = 1 then 2 ^ k else 0) := by
  have h1 : m % 2 ^ (k + 1) = m % 2 ^ k + 2 ^ k * (m / 2 ^ k % 2) := Nat.mod_pow_succ
  have h2 : m % 2 ^ k < 2 ^ k := Nat.mod_lt _ (Nat.two_pow_pos k)
  rw [h1]
  split
  · rename_i hb
    have := xor_mul k 1 (m % 2 ^ k) h2
    rw [Nat.mul_one] at this
    rw [hb, Nat.mul_one, Nat.xor_comm, this, Nat.add_comm]
  · rename_i hb
    have hz : m / 2 ^ k % 2 = 0 := by omega
    rw [hz]; simp
theorem fold_burst (r : Nat) (bs : List UInt8) (at' mask k : Nat) (h : at' + k ≤ 8 * bs.length) :
    fold r (burst bs at' mask k) = fold r bs ^^^ steps (8 * bs.length - at') (mask % 2 ^ k) := by
  induction k with
  | zero => simp [burst, Nat.mod_one, steps_zero]
  | succ k ih =>
    rw [mod_succ, steps_xor, ← Nat.xor_assoc, ← ih (by omega)]
    simp only [burst]
    split
    · rw [fold_turn _ _ _ (by rw [burst_length]; omega), burst_length, steps_two k _ (by omega)]
      congr 2; omega
    · rw [steps_zero, Nat.xor_zero]
theorem burst_bad (bs : List UInt8) (at' mask : Nat) (h : at' ≤ 8 * bs.length) (hm : mask < 4294967296) (h0 : mask ≠ 0) : good (burst (shut bs) at' mask 32) = false := by
  rw [Bool.eq_false_iff]
  intro hg
  have hl := shut_length bs
  rw [good_iff _ (by rw [burst_length, hl]; omega), fold_burst _ _ _ _ _ (by omega), Nat.mod_eq_of_lt (by simpa using hm)] at hg
  rw [(good_iff (shut bs) (by omega)).1 (good_shut bs)] at hg
  have hz : steps (8 * (shut bs).length - at') mask = 0 := by
    have := congrArg (fun x => steps 32 all1 ^^^ x) hg
    simp only [xor_xor, Nat.xor_self] at this
    exact this
  exact h0 (steps_inj0 _ _ hm hz)
end Go.Proofs.Ytncpbmokbnjjoaa.Crc
