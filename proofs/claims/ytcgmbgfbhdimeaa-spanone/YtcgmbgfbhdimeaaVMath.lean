/- Package value as plain mathematics: which values are right, how they stand, their bytes, and what is read. No program. -/
import Derived.Test.YtcgmbgfbhdimeaaWMath
import Derived.Laws.Strings
namespace Vals
open Wire
open Go.Op (bytesLess)
def cmpI (a b : Int) : Int := if a < b then -1 else if b < a then 1 else 0
def cmpT (a b : List UInt8) : Int := if bytesLess a b then -1 else if a = b then 0 else 1
def cmp (k i : Int) (t : List UInt8) (k' i' : Int) (t' : List UInt8) : Int :=
  if cmpI k k' ≠ 0 then cmpI k k' else if cmpI i i' ≠ 0 then cmpI i i' else cmpT t t'
def right (k i : Int) (t : List UInt8) : Bool :=
  if k = 1 then t.length == 0 else if k = 2 then i == 0 && decide (t.length ≤ 64) else if k = 3 then t.length == 0 && decide (0 ≤ i) && decide (i ≤ 1) else false
def bytes (k i : Int) (t : List UInt8) : List UInt8 :=
  put k.toNat ++ (if k = 1 then put (zig i) else if k = 2 then text t else put i.toNat)
def lay (k i : Int) (t : List UInt8) : List UInt8 := if right k i t then bytes k i t else []
def getS (s : St) : St :=
  if s.uptoV 3 = 1 then (s.uptoS 3).numS else if s.uptoV 3 = 2 then (s.uptoS 3).textS 64 else if s.uptoV 3 = 3 then (s.uptoS 3).uptoS 1 else (s.uptoS 3).fail 3
def getK (s : St) : Int := if (getS s).err = 0 then (s.uptoV 3 : Int) else 0
def getI (s : St) : Int := if (getS s).err = 0 then (if s.uptoV 3 = 1 then zag (s.uptoS 3).numV else if s.uptoV 3 = 3 then ((s.uptoS 3).uptoV 1 : Int) else 0) else 0
def getT (s : St) : List UInt8 := if (getS s).err = 0 then (if s.uptoV 3 = 2 then (s.uptoS 3).textV 64 else []) else []

theorem less_irr : ∀ a : List UInt8, bytesLess a a = false
  | [] => rfl
  | x :: a => by simp [bytesLess, less_irr a]
theorem less_asym : ∀ a b : List UInt8, bytesLess a b = true → bytesLess b a = false
  | _, [] => by simp [bytesLess]
  | [], _ :: _ => by simp [bytesLess]
  | x :: a, y :: b => by
    simp only [bytesLess, Bool.or_eq_true, decide_eq_true_eq, Bool.and_eq_true, beq_iff_eq, Bool.or_eq_false_iff, decide_eq_false_iff_not, Bool.and_eq_false_iff]
    rintro (h | ⟨h, k⟩)
    · have : ¬ y < x := by rw [UInt8.lt_iff_toNat_lt] at *; omega
      refine ⟨this, .inl ?_⟩
      rw [beq_eq_false_iff_ne]; rintro rfl; rw [UInt8.lt_iff_toNat_lt] at h; omega
    · subst h
      refine ⟨by rw [UInt8.lt_iff_toNat_lt]; omega, .inr (less_asym a b k)⟩
theorem less_tri : ∀ a b : List UInt8, bytesLess a b = false → bytesLess b a = false → a = b
  | [], [] => by simp
  | _ :: _, [] => by simp [bytesLess]
  | [], _ :: _ => by simp [bytesLess]
  | x :: a, y :: b => by
    simp only [bytesLess, Bool.or_eq_false_iff, decide_eq_false_iff_not, Bool.and_eq_false_iff]
    rintro ⟨h1, h2⟩ ⟨h3, h4⟩
    have e : x = y := by rw [UInt8.lt_iff_toNat_lt] at *; exact UInt8.toNat_inj.1 (by omega)
    subst e
    rcases h2 with h2 | h2
    · simp at h2
    · rcases h4 with h4 | h4
      · simp at h4
      · rw [less_tri a b h2 h4]
theorem less_trans : ∀ a b c : List UInt8, bytesLess a b = true → bytesLess b c = true → bytesLess a c = true
  | _, [], _ => by simp [bytesLess]
  | _, _ :: _, [] => by simp [bytesLess]
  | [], _ :: _, _ :: _ => by simp [bytesLess]
  | x :: a, y :: b, z :: c => by
    simp only [bytesLess, Bool.or_eq_true, decide_eq_true_eq, Bool.and_eq_true, beq_iff_eq]
    rintro (h | ⟨h, k⟩) (h' | ⟨h', k'⟩)
    · left; rw [UInt8.lt_iff_toNat_lt] at *; omega
    · subst h'; exact .inl h
    · subst h; exact .inl h'
    · subst h; subst h'; exact .inr ⟨rfl, less_trans a b c k k'⟩
theorem cmpI_bd (a b : Int) : -1 ≤ cmpI a b ∧ cmpI a b ≤ 1 := by unfold cmpI; split <;> (try split) <;> omega
theorem cmpI_neg (a b : Int) : cmpI b a = - cmpI a b := by unfold cmpI; split <;> split <;> (try split) <;> omega
theorem cmpI_zero (a b : Int) : cmpI a b = 0 ↔ a = b := by unfold cmpI; split <;> (try split) <;> omega
theorem cmpT_bd (a b : List UInt8) : -1 ≤ cmpT a b ∧ cmpT a b ≤ 1 := by unfold cmpT; split <;> (try split) <;> omega
theorem cmpT_zero (a b : List UInt8) : cmpT a b = 0 ↔ a = b := by
  unfold cmpT
  constructor
  · split
    · intro h; omega
    · split
      · intro _; assumption
      · intro h; omega
  · rintro rfl; rw [less_irr]; simp
theorem cmpT_le (a b : List UInt8) : cmpT a b ≤ 0 ↔ bytesLess b a = false := by
  unfold cmpT
  split
  · rename_i h
    constructor
    · intro _; exact less_asym _ _ h
    · intro _; omega
  · rename_i h
    split
    · rename_i h'
      subst h'
      simp [less_irr]
    · rename_i h'
      constructor
      · intro h; omega
      · intro h2; exact absurd (less_tri _ _ (by simpa using h) h2) h'
theorem cmpT_neg (a b : List UInt8) : cmpT b a = - cmpT a b := by
  by_cases e : a = b
  · subst e
    rw [(cmpT_zero a a).2 rfl]; rfl
  · have e' : ¬ b = a := fun h => e h.symm
    unfold cmpT
    cases h1 : bytesLess a b <;> cases h2 : bytesLess b a
    · exact absurd (less_tri _ _ h1 h2) e
    · simp [e]
    · simp [e']
    · rw [less_asym _ _ h1] at h2; simp at h2
theorem cmpT_trans (a b c : List UInt8) (h1 : cmpT a b ≤ 0) (h2 : cmpT b c ≤ 0) : cmpT a c ≤ 0 := by
  rw [cmpT_le] at *
  cases h : bytesLess c a with
  | false => rfl
  | true =>
    cases h3 : bytesLess a b with
    | true => rw [less_trans _ _ _ h h3] at h2; exact h2
    | false =>
      have := less_tri _ _ h3 h1
      subst this
      rw [h] at h2; exact h2
theorem cmp_bd (k i : Int) (t : List UInt8) (k' i' : Int) (t' : List UInt8) : -1 ≤ cmp k i t k' i' t' ∧ cmp k i t k' i' t' ≤ 1 := by
  unfold cmp
  split
  · exact cmpI_bd _ _
  · split
    · exact cmpI_bd _ _
    · exact cmpT_bd _ _
theorem cmp_neg (k i : Int) (t : List UInt8) (k' i' : Int) (t' : List UInt8) : cmp k' i' t' k i t = - cmp k i t k' i' t' := by
  unfold cmp
  rw [cmpI_neg k k', cmpI_neg i i', cmpT_neg t t']
  by_cases h1 : cmpI k k' = 0
  · by_cases h2 : cmpI i i' = 0
    · simp [h1, h2]
    · simp [h1, h2]
  · simp [h1]
theorem cmp_zero (k i : Int) (t : List UInt8) (k' i' : Int) (t' : List UInt8) : cmp k i t k' i' t' = 0 ↔ (k = k' ∧ i = i' ∧ t = t') := by
  unfold cmp
  rw [← cmpI_zero k k', ← cmpI_zero i i', ← cmpT_zero t t']
  by_cases h1 : cmpI k k' = 0
  · by_cases h2 : cmpI i i' = 0
    · simp [h1, h2]
    · simp [h1, h2]
  · simp [h1]
theorem cmpI_le (a b : Int) : cmpI a b ≤ 0 ↔ a ≤ b := by unfold cmpI; split <;> (try split) <;> omega
theorem cmp_le (k i : Int) (t : List UInt8) (k' i' : Int) (t' : List UInt8) : cmp k i t k' i' t' ≤ 0 ↔ (k < k' ∨ (k = k' ∧ (i < i' ∨ (i = i' ∧ cmpT t t' ≤ 0)))) := by
  unfold cmp
  by_cases h1 : k = k'
  · by_cases h2 : i = i'
    · simp [h1, h2, (cmpI_zero _ _).2]
    · rw [if_neg (by simp [cmpI_zero, h1]), if_pos (by simp [cmpI_zero, h2]), cmpI_le]
      constructor
      · intro h; exact .inr ⟨h1, .inl (by omega)⟩
      · rintro (h | ⟨_, h | ⟨h, _⟩⟩) <;> omega
  · rw [if_pos (by simp [cmpI_zero, h1]), cmpI_le]
    constructor
    · intro h; exact .inl (by omega)
    · rintro (h | ⟨h, _⟩) <;> omega
theorem cmp_trans (k1 i1 : Int) (t1 : List UInt8) (k2 i2 : Int) (t2 : List UInt8) (k3 i3 : Int) (t3 : List UInt8) (h1 : cmp k1 i1 t1 k2 i2 t2 ≤ 0) (h2 : cmp k2 i2 t2 k3 i3 t3 ≤ 0) : cmp k1 i1 t1 k3 i3 t3 ≤ 0 := by
  rw [cmp_le] at *
  rcases h1 with h1 | ⟨h1, h1 | ⟨h1', h1''⟩⟩ <;> rcases h2 with h2 | ⟨h2, h2 | ⟨h2', h2''⟩⟩
  · left; omega
  · left; omega
  · left; omega
  · left; omega
  · right; exact ⟨by omega, .inl (by omega)⟩
  · right; exact ⟨by omega, .inl (by omega)⟩
  · left; omega
  · right; exact ⟨by omega, .inl (by omega)⟩
  · right; exact ⟨by omega, .inr ⟨by omega, cmpT_trans _ _ _ h1'' h2''⟩⟩

/-! What was laid is read as it was. -/
theorem upto_put (m n : Nat) (r : List UInt8) (h : n ≤ m) (hm : n < 2 ^ 64) : (St.mk (put n ++ r) 0).uptoV (m : Int) = n ∧ (St.mk (put n ++ r) 0).uptoS (m : Int) = ⟨r, 0⟩ := by
  have e := num_put n hm r
  have ho : (St.mk (put n ++ r) 0).over (m : Int) = false := by
    unfold St.over St.numV
    rw [e]
    simp; omega
  refine ⟨?_, ?_⟩
  · unfold St.uptoV
    rw [if_neg (by rw [ho]; simp)]
    unfold St.numV
    rw [e]
  · unfold St.uptoS
    rw [if_neg (by rw [ho]; simp)]
    unfold St.numS
    simp only [e]
    simp
theorem text_put (t : List UInt8) (r : List UInt8) (h : t.length ≤ 64) : (St.mk (text t ++ r) 0).textV 64 = t ∧ (St.mk (text t ++ r) 0).textS 64 = ⟨r, 0⟩ := by
  have e : text t ++ r = put t.length ++ (t ++ r) := by unfold text; simp
  rw [e]
  obtain ⟨h1, h2⟩ := upto_put 64 t.length (t ++ r) h (by omega)
  rw [show ((64 : Nat) : Int) = 64 from rfl] at h1 h2
  refine ⟨?_, ?_⟩
  · unfold St.textV
    rw [h1, h2, if_neg (by simp)]
    simp
  · unfold St.textS
    rw [h1, h2, if_neg (by simp)]
    simp
theorem num_put' (n : Nat) (r : List UInt8) (hm : n < 2 ^ 64) : (St.mk (put n ++ r) 0).numV = n ∧ (St.mk (put n ++ r) 0).numS = ⟨r, 0⟩ := by
  have e := num_put n hm r
  unfold St.numV St.numS
  simp only [e]
  simp
theorem right_cases {k i : Int} {t : List UInt8} (h : right k i t = true) : (k = 1 ∧ t = []) ∨ (k = 2 ∧ i = 0 ∧ t.length ≤ 64) ∨ (k = 3 ∧ t = [] ∧ (i = 0 ∨ i = 1)) := by
  unfold right at h
  by_cases h1 : k = 1
  · rw [if_pos h1] at h
    exact .inl ⟨h1, by simpa using h⟩
  · rw [if_neg h1] at h
    by_cases h2 : k = 2
    · rw [if_pos h2] at h
      simp only [Bool.and_eq_true, beq_iff_eq, decide_eq_true_eq] at h
      exact .inr (.inl ⟨h2, h.1, h.2⟩)
    · rw [if_neg h2] at h
      by_cases h3 : k = 3
      · rw [if_pos h3] at h
        simp only [Bool.and_eq_true, beq_iff_eq, decide_eq_true_eq, List.length_eq_zero_iff] at h
        exact .inr (.inr ⟨h3, h.1.1, by omega⟩)
      · rw [if_neg h3] at h; simp at h
theorem get_lay (k i : Int) (t r : List UInt8) (h : right k i t = true) (h1 : -9223372036854775808 ≤ i) (h2 : i ≤ 9223372036854775807) :
    getS ⟨lay k i t ++ r, 0⟩ = ⟨r, 0⟩ ∧ getK ⟨lay k i t ++ r, 0⟩ = k ∧ getI ⟨lay k i t ++ r, 0⟩ = i ∧ getT ⟨lay k i t ++ r, 0⟩ = t := by
  unfold lay
  rw [if_pos h]
  unfold bytes
  rcases right_cases h with ⟨rfl, rfl⟩ | ⟨rfl, rfl, ht⟩ | ⟨rfl, rfl, hi⟩
  · rw [if_pos rfl, List.append_assoc]
    obtain ⟨e1, e2⟩ := upto_put 3 1 (put (zig i) ++ r) (by omega) (by omega)
    obtain ⟨e3, e4⟩ := num_put' (zig i) r (zig_lt i h1 h2)
    have e1' : (St.mk (put (1 : Int).toNat ++ (put (zig i) ++ r)) 0).uptoV 3 = 1 := e1
    have e2' : (St.mk (put (1 : Int).toNat ++ (put (zig i) ++ r)) 0).uptoS 3 = ⟨put (zig i) ++ r, 0⟩ := e2
    have eS : getS ⟨put (1 : Int).toNat ++ (put (zig i) ++ r), 0⟩ = ⟨r, 0⟩ := by unfold getS; rw [e1', e2', if_pos rfl, e4]
    refine ⟨eS, ?_, ?_, ?_⟩
    · unfold getK; rw [eS, if_pos rfl, e1']; rfl
    · unfold getI; rw [eS, if_pos rfl, e1', if_pos rfl, e2', e3, zag_zig]
    · unfold getT; rw [eS, if_pos rfl, e1', if_neg (by decide)]
  · rw [if_neg (by decide), if_pos rfl, List.append_assoc]
    obtain ⟨e1, e2⟩ := upto_put 3 2 (text t ++ r) (by omega) (by omega)
    obtain ⟨e3, e4⟩ := text_put t r ht
    have e1' : (St.mk (put (2 : Int).toNat ++ (text t ++ r)) 0).uptoV 3 = 2 := e1
    have e2' : (St.mk (put (2 : Int).toNat ++ (text t ++ r)) 0).uptoS 3 = ⟨text t ++ r, 0⟩ := e2
    have eS : getS ⟨put (2 : Int).toNat ++ (text t ++ r), 0⟩ = ⟨r, 0⟩ := by unfold getS; rw [e1', e2', if_neg (by decide), if_pos rfl, e4]
    refine ⟨eS, ?_, ?_, ?_⟩
    · unfold getK; rw [eS, if_pos rfl, e1']; rfl
    · unfold getI; rw [eS, if_pos rfl, e1', if_neg (by decide), if_neg (by decide)]
    · unfold getT; rw [eS, if_pos rfl, e1', if_pos rfl, e2', e3]
  · rw [if_neg (by decide), if_neg (by decide), List.append_assoc]
    obtain ⟨e1, e2⟩ := upto_put 3 3 (put i.toNat ++ r) (by omega) (by omega)
    obtain ⟨e3, e4⟩ := upto_put 1 i.toNat r (by omega) (by omega)
    have e3' : (St.mk (put i.toNat ++ r) 0).uptoV 1 = i.toNat := e3
    have e4' : (St.mk (put i.toNat ++ r) 0).uptoS 1 = ⟨r, 0⟩ := e4
    have e1' : (St.mk (put (3 : Int).toNat ++ (put i.toNat ++ r)) 0).uptoV 3 = 3 := e1
    have e2' : (St.mk (put (3 : Int).toNat ++ (put i.toNat ++ r)) 0).uptoS 3 = ⟨put i.toNat ++ r, 0⟩ := e2
    have eS : getS ⟨put (3 : Int).toNat ++ (put i.toNat ++ r), 0⟩ = ⟨r, 0⟩ := by unfold getS; rw [e1', e2', if_neg (by decide), if_neg (by decide), if_pos rfl, e4']
    refine ⟨eS, ?_, ?_, ?_⟩
    · unfold getK; rw [eS, if_pos rfl, e1']; rfl
    · unfold getI; rw [eS, if_pos rfl, e1', if_neg (by decide), if_pos rfl, e2', e3']; omega
    · unfold getT; rw [eS, if_pos rfl, e1', if_neg (by decide)]
theorem lay_inj (k i : Int) (t : List UInt8) (k' i' : Int) (t' : List UInt8) (h : right k i t = true) (h' : right k' i' t' = true) (h1 : -9223372036854775808 ≤ i) (h2 : i ≤ 9223372036854775807)
    (h1' : -9223372036854775808 ≤ i') (h2' : i' ≤ 9223372036854775807) : lay k i t = lay k' i' t' ↔ (k = k' ∧ i = i' ∧ t = t') := by
  constructor
  · intro e
    obtain ⟨_, a1, a2, a3⟩ := get_lay k i t [] h h1 h2
    obtain ⟨_, b1, b2, b3⟩ := get_lay k' i' t' [] h' h1' h2'
    rw [e] at a1 a2 a3
    exact ⟨a1.symm.trans b1, a2.symm.trans b2, a3.symm.trans b3⟩
  · rintro ⟨rfl, rfl, rfl⟩; rfl

/-! What is read was laid just so, and is right. -/
theorem upto_or (b : List UInt8) (m : Int) (hm : 0 ≤ m) : (((St.mk b 0).uptoS m).err ≠ 0 ∧ ((St.mk b 0).uptoS m).rest = [] ∧ (St.mk b 0).uptoV m = 0) ∨
    (∃ j, j ≤ b.length ∧ (St.mk b 0).uptoS m = ⟨b.drop j, 0⟩ ∧ put ((St.mk b 0).uptoV m) = b.take j ∧ ((St.mk b 0).uptoV m : Int) ≤ m) := by
  rcases St.num_or b with ⟨h1, h2, h3⟩ | ⟨j, h1, h2, h3, h4⟩
  · left
    have hv : (St.mk b 0).numV = 0 := (num_bad b h3).1
    have ho : (St.mk b 0).over m = false := by unfold St.over; rw [hv]; simp; omega
    unfold St.uptoS St.uptoV
    rw [if_neg (by rw [ho]; simp), if_neg (by rw [ho]; simp)]
    exact ⟨h1, h2, hv⟩
  · cases ho : (St.mk b 0).over m with
    | true =>
      left
      unfold St.uptoS St.uptoV
      rw [if_pos ho, if_pos ho, h2]
      exact ⟨by simp [St.fail], by simp [St.fail], rfl⟩
    | false =>
      right
      unfold St.uptoS St.uptoV
      rw [if_neg (by rw [ho]; simp), if_neg (by rw [ho]; simp)]
      refine ⟨j, h1, h2, h3, ?_⟩
      unfold St.over at ho
      simp at ho
      exact ho.2
theorem textV_le (s : St) (m : Nat) : (s.textV (m : Int)).length ≤ m := by
  unfold St.textV
  split
  · simp
  · rw [List.length_take]
    have : s.uptoV (m : Int) ≤ m := by
      unfold St.uptoV St.over
      split
      · omega
      · rename_i h
        simp at h; omega
    omega
theorem get_ok (b : List UInt8) (h : (getS ⟨b, 0⟩).err = 0) :
    ∃ j, j ≤ b.length ∧ getS ⟨b, 0⟩ = ⟨b.drop j, 0⟩ ∧ right (getK ⟨b, 0⟩) (getI ⟨b, 0⟩) (getT ⟨b, 0⟩) = true ∧ lay (getK ⟨b, 0⟩) (getI ⟨b, 0⟩) (getT ⟨b, 0⟩) = b.take j := by
  have hk : getK ⟨b, 0⟩ = ((St.mk b 0).uptoV 3 : Int) := by unfold getK; rw [if_pos h]
  have hi : getI ⟨b, 0⟩ = (if (St.mk b 0).uptoV 3 = 1 then zag ((St.mk b 0).uptoS 3).numV else if (St.mk b 0).uptoV 3 = 3 then (((St.mk b 0).uptoS 3).uptoV 1 : Int) else 0) := by unfold getI; rw [if_pos h]
  have ht : getT ⟨b, 0⟩ = (if (St.mk b 0).uptoV 3 = 2 then ((St.mk b 0).uptoS 3).textV 64 else []) := by unfold getT; rw [if_pos h]
  rcases upto_or b 3 (by omega) with ⟨e1, e2, e3⟩ | ⟨j, e1, e2, e3, e4⟩
  · exfalso
    unfold getS at h
    rw [e3] at h
    simp only [show ¬ (0 = 1) by omega, show ¬ (0 = 2) by omega, show ¬ (0 = 3) by omega, if_false] at h
    unfold St.fail at h
    rw [if_neg (fun hh => e1 hh.1)] at h
    exact e1 h
  · generalize hv : (St.mk b 0).uptoV 3 = v at *
    have hl : (b.take j).length = j := by rw [List.length_take]; omega
    have hv4 : v = 0 ∨ v = 1 ∨ v = 2 ∨ v = 3 := by omega
    rcases hv4 with rfl | rfl | rfl | rfl
    · exfalso
      unfold getS at h
      rw [hv] at h
      simp only [show ¬ (0 = 1) by omega, show ¬ (0 = 2) by omega, show ¬ (0 = 3) by omega, if_false] at h
      rw [e2] at h
      simp [St.fail] at h
    · replace hk : getK ⟨b, 0⟩ = 1 := hk
      rw [if_pos rfl] at hi
      rw [if_neg (by decide)] at ht
      have hS : getS ⟨b, 0⟩ = (St.mk (b.drop j) 0).numS := by unfold getS; rw [hv, if_pos rfl, e2]
      rw [hS] at h
      rw [e2] at hi
      rcases St.num_or (b.drop j) with ⟨h1, h2, h3⟩ | ⟨n, h1, h2, h3, h4⟩
      · exact absurd h h1
      · rw [List.length_drop] at h1
        refine ⟨j + n, by omega, by rw [hS, h2, List.drop_drop], ?_, ?_⟩
        · rw [hk, ht]; rfl
        · have hr : right (getK ⟨b, 0⟩) (getI ⟨b, 0⟩) (getT ⟨b, 0⟩) = true := by rw [hk, ht]; rfl
          unfold lay
          rw [if_pos hr]
          unfold bytes
          rw [hk, hi, ht, if_pos rfl, zig_zag, h3, List.take_add]
          congr 1
    · replace hk : getK ⟨b, 0⟩ = 2 := hk
      rw [if_neg (by decide), if_neg (by decide)] at hi
      rw [if_pos rfl] at ht
      have hS : getS ⟨b, 0⟩ = (St.mk (b.drop j) 0).textS 64 := by unfold getS; rw [hv, if_neg (by decide), if_pos rfl, e2]
      rw [hS] at h
      rw [e2] at ht
      rcases St.text_or (b.drop j) 64 with ⟨h1, h2, h3⟩ | ⟨n, h1, h2, h3, h4⟩
      · exact absurd h h1
      · rw [List.length_drop] at h1
        have hle := textV_le (St.mk (b.drop j) 0) 64
        have hr : right (getK ⟨b, 0⟩) (getI ⟨b, 0⟩) (getT ⟨b, 0⟩) = true := by
          rw [hk, hi, ht]; unfold right
          rw [if_neg (by decide), if_pos rfl]
          simpa using hle
        refine ⟨j + n, by omega, by rw [hS, h2, List.drop_drop], hr, ?_⟩
        unfold lay
        rw [if_pos hr]
        unfold bytes
        rw [hk, hi, ht, if_neg (by decide), if_pos rfl, h3, List.take_add]
        congr 1
    · replace hk : getK ⟨b, 0⟩ = 3 := hk
      rw [if_neg (by decide), if_pos rfl] at hi
      rw [if_neg (by decide)] at ht
      have hS : getS ⟨b, 0⟩ = (St.mk (b.drop j) 0).uptoS 1 := by unfold getS; rw [hv, if_neg (by decide), if_neg (by decide), if_pos rfl, e2]
      rw [hS] at h
      rw [e2] at hi
      rcases upto_or (b.drop j) 1 (by omega) with ⟨h1, h2, h3⟩ | ⟨n, h1, h2, h3, h4⟩
      · exact absurd h h1
      · rw [List.length_drop] at h1
        have hr : right (getK ⟨b, 0⟩) (getI ⟨b, 0⟩) (getT ⟨b, 0⟩) = true := by
          rw [hk, hi, ht]; unfold right
          rw [if_neg (by decide), if_neg (by decide), if_pos rfl]
          simpa using h4
        refine ⟨j + n, by omega, by rw [hS, h2, List.drop_drop], hr, ?_⟩
        unfold lay
        rw [if_pos hr]
        unfold bytes
        rw [hk, hi, ht, if_neg (by decide), if_neg (by decide), Int.toNat_natCast, h3, List.take_add]
        congr 1
theorem get_bad (s : St) (h : (getS s).err ≠ 0) : getK s = 0 ∧ getI s = 0 ∧ getT s = [] := by
  unfold getK getI getT
  rw [if_neg h, if_neg h, if_neg h]
  exact ⟨rfl, rfl, rfl⟩
theorem get_bd (b : List UInt8) (h : right (getK ⟨b, 0⟩) (getI ⟨b, 0⟩) (getT ⟨b, 0⟩) = true) : -9223372036854775808 ≤ getI ⟨b, 0⟩ ∧ getI ⟨b, 0⟩ ≤ 9223372036854775807 ∧ (getT ⟨b, 0⟩).length ≤ 64 := by
  rcases right_cases h with ⟨_, h2⟩ | ⟨_, h2, h3⟩ | ⟨_, h2, h3⟩
  · have hb : -9223372036854775808 ≤ getI ⟨b, 0⟩ ∧ getI ⟨b, 0⟩ ≤ 9223372036854775807 := by
      unfold getI
      split
      · split
        · exact zag_bd _ (num_lt _)
        · split
          · have : ((St.mk b 0).uptoS 3).uptoV 1 ≤ 1 := by
              unfold St.uptoV St.over
              split
              · omega
              · rename_i h
                simp at h; omega
            omega
          · omega
      · omega
    rw [h2]
    exact ⟨hb.1, hb.2, by simp⟩
  · rw [h2]; exact ⟨by omega, by omega, h3⟩
  · rw [h2]; exact ⟨by omega, by omega, by simp⟩
theorem lay_len (k i : Int) (t : List UInt8) (h1 : -9223372036854775808 ≤ i) (h2 : i ≤ 9223372036854775807) : (lay k i t).length ≤ 200 := by
  unfold lay
  split
  · rename_i h
    unfold bytes
    rcases right_cases h with ⟨rfl, rfl⟩ | ⟨rfl, rfl, ht⟩ | ⟨rfl, rfl, hi⟩
    · have a := put_len_le 1 (by decide)
      have b := put_len_le (zig i) (zig_lt i h1 h2)
      simp; omega
    · have a := put_len_le 2 (by decide)
      have b := put_len_le t.length (by omega)
      simp [text]; omega
    · have a := put_len_le 3 (by decide)
      have b := put_len_le i.toNat (by omega)
      simp; omega
  · simp
theorem lay_pos (k i : Int) (t : List UInt8) : right k i t = decide (0 < (lay k i t).length) := by
  unfold lay
  cases h : right k i t with
  | false => simp
  | true =>
    have := put_pos k.toNat
    unfold bytes
    simp; omega
theorem getS_fine {s : St} (h : s.fine) : (getS s).fine := by
  unfold getS
  split
  · exact St.numS_fine (St.uptoS_fine h 3)
  · split
    · exact St.textS_fine (St.uptoS_fine h 3) 64
    · split
      · exact St.uptoS_fine (St.uptoS_fine h 3) 1
      · exact St.fail_fine (St.uptoS_fine h 3) 3
end Vals
