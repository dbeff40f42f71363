/- Package span as plain mathematics: the spans of predicates, and the predicates of spans. No program. -/
import Derived.Test.YtcgmbgfbhdimeaaSMath
namespace Spans
open Go.Op (bytesLess)
/-- A predicate. -/
structure Pr where
  n : List UInt8
  o : Int
  k : Int
  i : Int
  t : List UInt8
instance : Inhabited Pr := ⟨⟨[], 0, 0, 0, []⟩⟩
instance : DecidableEq Pr := fun a b => decidable_of_iff (a.n = b.n ∧ a.o = b.o ∧ a.k = b.k ∧ a.i = b.i ∧ a.t = b.t) (by cases a; cases b; simp)
def rightP (p : Pr) : Bool := Preds.right p.n p.o p.k p.i p.t && (decide (-9223372036854775808 ≤ p.i) && decide (p.i ≤ 9223372036854775807))
theorem rightP_iff (p : Pr) : rightP p = true ↔ Preds.right p.n p.o p.k p.i p.t = true ∧ -9223372036854775808 ≤ p.i ∧ p.i ≤ 9223372036854775807 := by unfold rightP; simp
def holdsP (p : Pr) (v : Val) : Bool := Preds.holds p.n p.o p.k p.i p.t v.k v.i v.t
def sideV (p : Pr) : Val := ⟨p.k, p.i, p.t⟩
/-! Texts that begin with others. -/
/-- The text behind all that begin with one. -/
def up : List UInt8 → Option (List UInt8)
  | [] => none
  | x :: p =>
    match up p with
    | some u => some (x :: u)
    | none => if x = 255 then none else some [x + 1]
theorem up_cons (x : UInt8) (p : List UInt8) : up (x :: p) = match up p with
    | some u => some (x :: u)
    | none => if x = 255 then none else some [x + 1] := rfl
theorem begins_nil (t : List UInt8) : Preds.begins t [] = true := by unfold Preds.begins; simp
theorem begins_cons (x y : UInt8) (t p : List UInt8) : Preds.begins (y :: t) (x :: p) = (decide (y = x) && Preds.begins t p) := by
  unfold Preds.begins
  by_cases h : y = x
  · simp [h]
  · simp [h]
theorem begins_short (x : UInt8) (p : List UInt8) : Preds.begins [] (x :: p) = false := by unfold Preds.begins; simp
theorem up_all : ∀ p, up p = none → ∀ x ∈ p, x = 255
  | [], _, _, h => by simp at h
  | y :: p, h, x, hx => by
    unfold up at h
    cases hq : up p with
    | some u => rw [hq] at h; simp at h
    | none =>
      rw [hq] at h
      by_cases hy : y = 255
      · rcases List.mem_cons.1 hx with rfl | hx
        · exact hy
        · exact up_all p hq x hx
      · simp [hy] at h
theorem u8_le (x : UInt8) : ¬ (255 : UInt8) < x := by rw [UInt8.lt_iff_toNat_lt]; have := x.toNat_lt; simp; omega
/-- A text begins with another one just if it stands from that on, and ahead of the text behind all of these. -/
theorem begins_iff : ∀ (p t : List UInt8), Preds.begins t p = true ↔ bytesLess t p = false ∧ ∀ u, up p = some u → bytesLess t u = true
  | [], t => by
    rw [begins_nil]
    simp only [true_iff]
    refine ⟨by cases t <;> rfl, fun u hu => by simp [up] at hu⟩
  | x :: p, [] => by
    rw [begins_short]
    simp [bytesLess]
  | x :: p, y :: t => by
    rw [begins_cons, Bool.and_eq_true, decide_eq_true_eq, begins_iff p t]
    have hl : ∀ (a b : UInt8) (c d : List UInt8), bytesLess (a :: c) (b :: d) = true ↔ a.toNat < b.toNat ∨ a = b ∧ bytesLess c d = true := by
      intro a b c d
      simp [bytesLess, UInt8.lt_iff_toNat_lt]
    have hf : ∀ (a b : UInt8) (c d : List UInt8), bytesLess (a :: c) (b :: d) = false ↔ ¬ (a.toNat < b.toNat ∨ a = b ∧ bytesLess c d = true) := by
      intro a b c d
      rw [← hl, Bool.not_eq_true]
    rw [hf]
    have hinj : ∀ a b : UInt8, a.toNat = b.toNat → a = b := fun a b h => UInt8.toNat_inj.1 h
    rw [up_cons]
    cases hq : up p with
    | some u =>
      constructor
      · rintro ⟨rfl, h1, h2⟩
        refine ⟨?_, fun w hw => ?_⟩
        · rintro (h | ⟨_, h⟩)
          · omega
          · rw [h1] at h; simp at h
        · injection hw with hw
          subst hw
          rw [hl]
          exact .inr ⟨rfl, h2 u rfl⟩
      · rintro ⟨h1, h2⟩
        have h3 := h2 _ rfl
        rw [hl] at h3
        have e : y = x := by
          rcases h3 with h3 | h3
          · exact absurd (.inl h3) h1
          · exact h3.1
        subst e
        refine ⟨rfl, ?_, fun w hw => ?_⟩
        · cases hb : bytesLess t p with
          | false => rfl
          | true => exact absurd (.inr ⟨rfl, hb⟩) h1
        · injection hw with hw
          subst hw
          rcases h3 with h3 | h3
          · omega
          · exact h3.2
    | none =>
      by_cases hx : x = 255
      · subst hx
        simp only [if_true]
        constructor
        · rintro ⟨rfl, h1, _⟩
          refine ⟨?_, fun w hw => by simp at hw⟩
          rintro (h | ⟨_, h⟩)
          · omega
          · rw [h1] at h; simp at h
        · rintro ⟨h1, _⟩
          have e : y = 255 := by
            refine hinj _ _ ?_
            have := y.toNat_lt
            have : ¬ y.toNat < (255 : UInt8).toNat := fun h => h1 (.inl h)
            simp at this ⊢; omega
          refine ⟨e, ?_, fun w hw => by simp at hw⟩
          cases hb : bytesLess t p with
          | false => rfl
          | true => exact absurd (.inr ⟨e, hb⟩) h1
      · simp only [if_neg hx]
        have hx1 : (x + 1).toNat = x.toNat + 1 := by
          have := x.toNat_lt
          have : x.toNat ≠ 255 := fun h => hx (hinj _ _ (by simpa using h))
          rw [UInt8.toNat_add]; simp; omega
        constructor
        · rintro ⟨rfl, h1, _⟩
          refine ⟨?_, fun w hw => ?_⟩
          · rintro (h | ⟨_, h⟩)
            · omega
            · rw [h1] at h; simp at h
          · injection hw with hw
            subst hw
            rw [hl]
            left; omega
        · rintro ⟨h1, h2⟩
          have h3 := h2 _ rfl
          rw [hl] at h3
          have e : y = x := by
            refine hinj _ _ ?_
            have : ¬ y.toNat < x.toNat := fun h => h1 (.inl h)
            rcases h3 with h3 | ⟨_, h3⟩
            · omega
            · cases t <;> simp [bytesLess] at h3
          subst e
          refine ⟨rfl, ?_, fun w hw => by simp at hw⟩
          cases hb : bytesLess t p with
          | false => rfl
          | true => exact absurd (.inr ⟨rfl, hb⟩) h1
theorem up_len : ∀ (p u : List UInt8), up p = some u → u.length ≤ p.length
  | [], u, h => by simp [up] at h
  | x :: p, u, h => by
    unfold up at h
    cases hq : up p with
    | some w =>
      rw [hq] at h
      injection h with h
      subst h
      have := up_len p w hq
      simp; omega
    | none =>
      rw [hq] at h
      by_cases hx : x = 255
      · simp [hx] at h
      · simp only [if_neg hx] at h
        injection h with h
        subst h
        simp
/-- It does not end with a byte 0. -/
theorem up_end : ∀ (p u : List UInt8), up p = some u → ∀ w, u ≠ w ++ [0]
  | [], u, h => by simp [up] at h
  | x :: p, u, h => by
    unfold up at h
    intro w
    cases hq : up p with
    | some z =>
      rw [hq] at h
      injection h with h
      subst h
      rcases w with _ | ⟨y, w⟩
      · intro e
        have hz : z = [] := by simpa using (List.cons.inj e).2
        subst hz
        rcases p with _ | ⟨y, p⟩
        · simp [up] at hq
        · unfold up at hq
          cases hp : up p with
          | some _ => rw [hp] at hq; simp at hq
          | none =>
            rw [hp] at hq
            by_cases hy : y = 255
            · simp [hy] at hq
            · simp [hy] at hq
      · intro e
        exact up_end p z hq w (List.cons.inj e).2
    | none =>
      rw [hq] at h
      by_cases hx : x = 255
      · simp [hx] at h
      · simp only [if_neg hx] at h
        injection h with h
        subst h
        have hx1 : (x + 1).toNat = x.toNat + 1 := by
          have := x.toNat_lt
          have : x.toNat ≠ 255 := fun h => hx (UInt8.toNat_inj.1 (by simpa using h))
          rw [UInt8.toNat_add]; simp; omega
        rcases w with _ | ⟨y, w⟩
        · intro e
          have : x + 1 = 0 := by simpa using e
          rw [this] at hx1
          simp at hx1
        · intro e
          have := (List.cons.inj e).2
          simp at this
theorem up_lt : ∀ (p u : List UInt8), up p = some u → bytesLess p u = true := fun p u h => by
  have := (begins_iff p p).1 (by unfold Preds.begins; simp)
  exact this.2 u h
/-! Of what predicates hold. -/
def ofLo (p : Pr) : Int := if p.o = 1 ∨ p.o = 6 then p.i else if p.o = 5 then p.i + 1 else lowest p.k
def ofHi (p : Pr) : Int := if p.o = 1 ∨ p.o = 4 then p.i else if p.o = 3 then p.i - 1 else highest p.k
def ofNo (p : Pr) : List Val := if p.o = 2 then [sideV p] else []
def ofFrm (p : Pr) : List UInt8 := if p.o = 1 ∨ p.o = 6 ∨ p.o = 7 then p.t else if p.o = 5 then p.t ++ [0] else []
def ofTo (p : Pr) : List UInt8 := if p.o = 1 ∨ p.o = 4 then p.t ++ [0] else if p.o = 3 then p.t else if p.o = 7 then (up p.t).getD [] else []
def ofOpn (p : Pr) : Bool := if p.o = 1 ∨ p.o = 3 ∨ p.o = 4 then false else if p.o = 7 then (up p.t).isNone else true
theorem rightP_cases {p : Pr} (h : rightP p = true) : (p.o = 8 ∧ p.k = 0 ∧ p.i = 0 ∧ p.t = []) ∨ (p.o ≠ 8 ∧ 1 ≤ p.o ∧ p.o ≤ 7 ∧ Vals.right p.k p.i p.t = true ∧ p.t.length ≤ 32 ∧ (p.o = 7 → p.k = 2)) :=
  Preds.asks_cases (Preds.right_parts ((rightP_iff p).1 h).1).2.2
theorem rightP_side {p : Pr} (h : rightP p = true) (h8 : p.o ≠ 8) : rightV (sideV p) = true := by
  rcases rightP_cases h with ⟨e, _⟩ | ⟨_, _, _, hr, _⟩
  · exact absurd e h8
  · rw [rightV_iff]; exact ⟨hr, ((rightP_iff p).1 h).2⟩
theorem num_bd {v : Val} (hr : rightV v = true) (hk : v.k = 1 ∨ v.k = 3) : lowest v.k ≤ v.i ∧ v.i ≤ highest v.k := by
  rw [rightV_iff] at hr
  rcases Vals.right_cases hr.1 with ⟨h, _⟩ | ⟨h, _⟩ | ⟨h, _, h'⟩
  · rw [h]; simp [lowest, highest]; omega
  · omega
  · rw [h]; simp [lowest, highest]; omega
theorem holds_met {p : Pr} {v : Val} (h : rightP p = true) (hv : rightV v = true) : holdsP p v = Preds.met p.o p.k p.i p.t v.k v.i v.t := by
  unfold holdsP Preds.holds
  rw [((rightP_iff p).1 h).1, ((rightV_iff v).1 hv).1]; rfl
theorem holds_wrong {p : Pr} {v : Val} (h : Preds.right p.n p.o p.k p.i p.t = false) : holdsP p v = false := by
  unfold holdsP Preds.holds
  rw [h]; rfl
theorem holds_E {p : Pr} {v : Val} (h : rightP p = true) (h8 : p.o = 8) (hv : rightV v = true) : holdsP p v = true := by
  rw [holds_met h hv]
  unfold Preds.met
  rw [if_pos h8]
theorem cmp_num (k a b : Int) : Vals.cmp k a [] k b [] = Vals.cmpI a b := by
  unfold Vals.cmp
  rw [if_neg (by simp [Vals.cmpI_zero])]
  by_cases h : Vals.cmpI a b = 0
  · rw [if_neg (by simpa using h), h]; rfl
  · rw [if_pos h]
theorem cmp_txt (a b : List UInt8) : Vals.cmp 2 0 a 2 0 b = Vals.cmpT a b := by
  unfold Vals.cmp Vals.cmpI
  simp
theorem holds_N {p : Pr} {v : Val} (h : rightP p = true) (hk : p.k = 1 ∨ p.k = 3) (hv : rightV v = true) : holdsP p v = true ↔ v.k = p.k ∧ ofLo p ≤ v.i ∧ v.i ≤ ofHi p ∧ v ∉ ofNo p := by
  rw [holds_met h hv]
  rcases rightP_cases h with ⟨_, e, _⟩ | ⟨h8, h1, h2, hr, hl, h7⟩
  · omega
  · have h7' : p.o ≠ 7 := fun e => by have := h7 e; omega
    unfold Preds.met
    rw [if_neg h8, if_neg h7', Bool.and_eq_true, decide_eq_true_eq]
    have hpt : p.t = [] := by
      rcases Vals.right_cases hr with ⟨_, h⟩ | ⟨h, _⟩ | ⟨_, h, _⟩
      · exact h
      · omega
      · exact h
    constructor
    · rintro ⟨hvk, ha⟩
      have hvt := right_numT hv (by omega)
      obtain ⟨b1, b2⟩ := num_bd hv (by omega)
      rw [hvk, hvt, hpt, cmp_num] at ha
      refine ⟨hvk, ?_⟩
      unfold ofLo ofHi ofNo
      have ho : p.o = 1 ∨ p.o = 2 ∨ p.o = 3 ∨ p.o = 4 ∨ p.o = 5 ∨ p.o = 6 := by omega
      rw [hvk] at b1 b2
      rcases ho with ho | ho | ho | ho | ho | ho <;> rw [ho] at ha ⊢ <;> simp [Preds.allows] at ha ⊢ <;> unfold Vals.cmpI at ha
      · split at ha
        · omega
        · split at ha <;> omega
      · refine ⟨b1, b2, fun e => ?_⟩
        have : v.i = p.i := by rw [e]; rfl
        rw [this] at ha
        simp at ha
      · split at ha
        · omega
        · split at ha <;> omega
      · split at ha
        · omega
        · split at ha <;> omega
      · split at ha
        · omega
        · split at ha <;> omega
      · split at ha
        · omega
        · split at ha <;> omega
    · rintro ⟨hvk, g1, g2, g3⟩
      have hvt := right_numT hv (by omega)
      refine ⟨hvk, ?_⟩
      rw [hvk, hvt, hpt, cmp_num]
      unfold ofLo at g1
      unfold ofHi at g2
      unfold ofNo at g3
      have ho : p.o = 1 ∨ p.o = 2 ∨ p.o = 3 ∨ p.o = 4 ∨ p.o = 5 ∨ p.o = 6 := by omega
      rcases ho with ho | ho | ho | ho | ho | ho <;> rw [ho] at g1 g2 g3 ⊢ <;> simp [Preds.allows] at g1 g2 g3 ⊢ <;> unfold Vals.cmpI
      · split
        · omega
        · split <;> omega
      · have : v.i ≠ p.i := fun e => g3 (Val.ext_ hvk e (hvt.trans hpt.symm))
        split
        · omega
        · split <;> omega
      · split
        · omega
        · split <;> omega
      · split
        · omega
        · split <;> omega
      · split
        · omega
        · split <;> omega
      · split
        · omega
        · split <;> omega
theorem lt_next (v t : List UInt8) : bytesLess v (t ++ [0]) = true ↔ bytesLess t v = false := by
  constructor
  · intro h
    cases hq : bytesLess t v with
    | false => rfl
    | true => rw [next_le _ _ hq] at h; simp at h
  · intro h
    exact lt_of_le_of_lt h (lt_snoc t)
theorem cmpT_neg_iff (a b : List UInt8) : Vals.cmpT a b < 0 ↔ bytesLess a b = true := by
  unfold Vals.cmpT
  split
  · rename_i h; simp [h]
  · rename_i h
    split <;> simp [h]
theorem cmpT_pos_iff (a b : List UInt8) : 0 < Vals.cmpT a b ↔ bytesLess b a = true := by
  rw [← cmpT_neg_iff b a, Vals.cmpT_neg a b]; omega
theorem holds_T {p : Pr} {v : Val} (h : rightP p = true) (hk : p.k = 2) (hv : rightV v = true) : holdsP p v = true ↔ v.k = 2 ∧ bytesLess v.t (ofFrm p) = false ∧ (ofOpn p = true ∨ bytesLess v.t (ofTo p) = true) ∧ v ∉ ofNo p := by
  rw [holds_met h hv]
  rcases rightP_cases h with ⟨_, e, _⟩ | ⟨h8, h1, h2, hr, hl, h7⟩
  · omega
  · unfold Preds.met
    rw [if_neg h8, Bool.and_eq_true, decide_eq_true_eq, hk]
    have hpi : p.i = 0 := by
      rcases Vals.right_cases hr with ⟨h, _⟩ | ⟨_, h, _⟩ | ⟨h, _⟩
      · omega
      · exact h
      · omega
    have hnil : ∀ t : List UInt8, bytesLess t [] = false := fun t => by cases t <;> rfl
    by_cases hvk : v.k = 2
    · have hvi := (right_textI hv hvk).1
      have hc : Vals.cmp v.k v.i v.t 2 p.i p.t = Vals.cmpT v.t p.t := by rw [hvk, hvi, hpi, cmp_txt]
      rw [hc]
      have hne : v = sideV p ↔ v.t = p.t := ⟨fun e => by rw [e]; rfl, fun e => Val.ext_ (hvk.trans hk.symm) (hvi.trans hpi.symm) e⟩
      unfold ofFrm ofTo ofOpn ofNo
      have ho : p.o = 1 ∨ p.o = 2 ∨ p.o = 3 ∨ p.o = 4 ∨ p.o = 5 ∨ p.o = 6 ∨ p.o = 7 := by omega
      rcases ho with ho | ho | ho | ho | ho | ho | ho <;> rw [ho] <;> simp [Preds.allows, hvk]
      · rw [Vals.cmpT_zero, lt_next]
        exact ⟨fun e => by rw [e, Vals.less_irr]; exact ⟨rfl, rfl⟩, fun ⟨a, b⟩ => Vals.less_tri _ _ a b⟩
      · rw [Vals.cmpT_zero, hne]
        exact ⟨fun e => ⟨hnil _, e⟩, fun e => e.2⟩
      · rw [cmpT_neg_iff]
        exact ⟨fun e => ⟨hnil _, e⟩, fun e => e.2⟩
      · rw [Vals.cmpT_le, lt_next]
        exact ⟨fun e => ⟨hnil _, e⟩, fun e => e.2⟩
      · rw [cmpT_pos_iff, Bool.eq_false_iff, ne_eq, lt_next, Bool.not_eq_false]
      · rw [← Int.not_lt, cmpT_neg_iff, Bool.not_eq_true]
      · rw [begins_iff]
        cases hq : up p.t with
        | none => simp
        | some u => simp
    · simp [hvk]
/-- The span of the values of which a predicate holds. -/
def IsOf (p : Pr) (r : Sp) : Prop := Canon r ∧ ∀ v, rightV v = true → (has r v = true ↔ holdsP p v = true)
theorem IsOf.one {p : Pr} {r r' : Sp} (h : IsOf p r) (h' : IsOf p r') : r = r' := one_right h.1 h'.1 fun v hr => by rw [Bool.eq_iff_iff, h.2 v hr, h'.2 v hr]
theorem of_wrong {p : Pr} (h : Preds.right p.n p.o p.k p.i p.t = false) : IsOf p none_ := ⟨.inl rfl, fun v _ => by rw [has_none, holds_wrong h]⟩
theorem of_E {p : Pr} (h : rightP p = true) (h8 : p.o = 8) : IsOf p any_ := ⟨.inr (.inl rfl), fun v hr => by rw [has_any, hr, holds_E h h8 hr]⟩
theorem of_N {p : Pr} {r : Sp} (h : rightP p = true) (hk : p.k = 1 ∨ p.k = 3) (hr : IsInts p.k (ofLo p) (ofHi p) (ofNo p) r) : IsOf p r := ⟨hr.1, fun v hv => by rw [hr.2 v hv, holds_N h hk hv]⟩
theorem of_T {p : Pr} {r : Sp} (h : rightP p = true) (hk : p.k = 2) (hr : IsTexts (ofFrm p) (ofTo p) (ofOpn p) (ofNo p) r) : IsOf p r := ⟨hr.1, fun v hv => by rw [hr.2 v hv, holds_T h hk hv]⟩
/-- The span of the values of which all of some predicates hold. -/
def IsAll (l : List Pr) (r : Sp) : Prop := Canon r ∧ ∀ v, rightV v = true → (has r v = true ↔ ∀ p ∈ l, holdsP p v = true)
theorem IsAll.one {l : List Pr} {r r' : Sp} (h : IsAll l r) (h' : IsAll l r') : r = r' := one_right h.1 h'.1 fun v hr => by rw [Bool.eq_iff_iff, h.2 v hr, h'.2 v hr]
theorem all_nil : IsAll [] any_ := ⟨.inr (.inl rfl), fun v hr => by rw [has_any]; simp [hr]⟩
theorem all_snoc {l : List Pr} {p : Pr} {a b r : Sp} (h : IsAll l a) (hp : IsOf p b) (hm : IsMeet a b r) : IsAll (l ++ [p]) r :=
  ⟨hm.1, fun v hr => by rw [hm.2 v hr, h.2 v hr, hp.2 v hr]; simp [or_imp, forall_and]⟩
end Spans
