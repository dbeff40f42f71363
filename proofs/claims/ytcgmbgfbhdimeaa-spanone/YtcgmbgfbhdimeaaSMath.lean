/- Package span as plain mathematics: sets of values, their one form, and what is in them. No program. -/
import Derived.Test.YtcgmbgfbhdimeaaPMath
namespace Spans
open Go.Op (bytesLess)
/-- A value: its kind, its int, its text. -/
structure Val where
  k : Int
  i : Int
  t : List UInt8
instance : Inhabited Val := ⟨⟨0, 0, []⟩⟩
instance : DecidableEq Val := fun a b => decidable_of_iff (a.k = b.k ∧ a.i = b.i ∧ a.t = b.t) (by cases a; cases b; simp)
theorem Val.ext_ {a b : Val} (h1 : a.k = b.k) (h2 : a.i = b.i) (h3 : a.t = b.t) : a = b := by cases a; cases b; simp_all
/-- Is a value right, with an int of 64 bits? -/
def rightV (v : Val) : Bool := Vals.right v.k v.i v.t && (decide (-9223372036854775808 ≤ v.i) && decide (v.i ≤ 9223372036854775807))
theorem rightV_iff (v : Val) : rightV v = true ↔ Vals.right v.k v.i v.t = true ∧ -9223372036854775808 ≤ v.i ∧ v.i ≤ 9223372036854775807 := by unfold rightV; simp
/-- A span: its kind, ints from lo to hi, texts from frm on, ahead of to_ (without an end, if opn), but those in no. -/
structure Sp where
  kind : Int
  lo : Int
  hi : Int
  frm : List UInt8
  to_ : List UInt8
  opn : Bool
  no : List Val
def none_ : Sp := ⟨0, 0, 0, [], [], false, []⟩
def any_ : Sp := ⟨4, 0, 0, [], [], false, []⟩
/-! Texts. -/
theorem lt_snoc : ∀ u : List UInt8, bytesLess u (u ++ [0]) = true
  | [] => rfl
  | x :: u => by simp [bytesLess, lt_snoc u]
/-- Behind a text comes the text with a byte 0 more. -/
theorem next_le : ∀ u t : List UInt8, bytesLess u t = true → bytesLess t (u ++ [0]) = false
  | _, [], h => by cases ‹List UInt8› <;> simp [bytesLess] at h
  | [], y :: t, _ => by
    simp only [List.nil_append, bytesLess, Bool.or_eq_false_iff, decide_eq_false_iff_not, Bool.and_eq_false_iff]
    refine ⟨by rw [UInt8.lt_iff_toNat_lt]; simp, .inr ?_⟩
    cases t <;> first | rfl | trivial
  | x :: u, y :: t, h => by
    simp only [bytesLess, Bool.or_eq_true, decide_eq_true_eq, Bool.and_eq_true, beq_iff_eq] at h
    simp only [List.cons_append, bytesLess, Bool.or_eq_false_iff, decide_eq_false_iff_not, Bool.and_eq_false_iff]
    rcases h with h | ⟨rfl, h⟩
    · refine ⟨by rw [UInt8.lt_iff_toNat_lt] at *; omega, .inl ?_⟩
      rw [beq_eq_false_iff_ne]; rintro rfl; rw [UInt8.lt_iff_toNat_lt] at h; omega
    · exact ⟨by rw [UInt8.lt_iff_toNat_lt]; omega, .inr (next_le u t h)⟩
theorem less_or (a b : List UInt8) : bytesLess a b = true ∨ a = b ∨ bytesLess b a = true := by
  cases h1 : bytesLess a b with
  | true => exact .inl rfl
  | false =>
    cases h2 : bytesLess b a with
    | true => exact .inr (.inr rfl)
    | false => exact .inr (.inl (Vals.less_tri a b h1 h2))
theorem le_trans {a b c : List UInt8} (h1 : bytesLess b a = false) (h2 : bytesLess c b = false) : bytesLess c a = false := by
  cases h : bytesLess c a with
  | false => rfl
  | true =>
    rcases less_or a b with h3 | rfl | h3
    · rw [Vals.less_trans _ _ _ h h3] at h2; simp at h2
    · rw [h] at h2; simp at h2
    · rw [h3] at h1; simp at h1
theorem lt_of_lt_of_le {a b c : List UInt8} (h1 : bytesLess a b = true) (h2 : bytesLess c b = false) : bytesLess a c = true := by
  rcases less_or a c with h | rfl | h
  · exact h
  · rw [h1] at h2; simp at h2
  · rw [Vals.less_trans _ _ _ h h1] at h2; simp at h2
theorem lt_of_le_of_lt {a b c : List UInt8} (h1 : bytesLess b a = false) (h2 : bytesLess b c = true) : bytesLess a c = true := by
  rcases less_or a b with h | rfl | h
  · exact Vals.less_trans _ _ _ h h2
  · exact h2
  · rw [h] at h1; simp at h1
theorem le_of_lt {a b : List UInt8} (h : bytesLess a b = true) : bytesLess b a = false := Vals.less_asym _ _ h
/-- A text with some bytes 0 more. -/
def zs (u : List UInt8) (j : Nat) : List UInt8 := u ++ List.replicate j 0
theorem zs_zero (u : List UInt8) : zs u 0 = u := by simp [zs]
theorem zs_succ (u : List UInt8) (j : Nat) : zs u (j + 1) = zs u j ++ [0] := by
  unfold zs
  rw [List.replicate_succ', List.append_assoc]
theorem zs_len (u : List UInt8) (j : Nat) : (zs u j).length = u.length + j := by simp [zs]
theorem zs_add (u : List UInt8) (a b : Nat) : zs (zs u a) b = zs u (a + b) := by
  unfold zs
  rw [List.append_assoc, List.replicate_append_replicate]
theorem zs_le (u : List UInt8) : ∀ j, bytesLess (zs u j) u = false
  | 0 => by rw [zs_zero, Vals.less_irr]
  | j + 1 => by rw [zs_succ]; exact le_trans (zs_le u j) (le_of_lt (lt_snoc _))
/-- Of a text ahead of an end: with some bytes 0 more it is the end, or it stays ahead, however many these are. -/
theorem zs_reach (u e : List UInt8) (h : bytesLess u e = true) : ∀ j, bytesLess (zs u j) e = true ∨ ∃ k, 1 ≤ k ∧ k ≤ j ∧ e = zs u k
  | 0 => by rw [zs_zero]; exact .inl h
  | j + 1 => by
    rcases zs_reach u e h j with h1 | ⟨k, h1, h2, h3⟩
    · rcases less_or (zs u (j + 1)) e with h2 | h2 | h2
      · exact .inl h2
      · exact .inr ⟨j + 1, by omega, by omega, h2.symm⟩
      · rw [zs_succ] at h2
        rw [next_le _ _ h1] at h2; simp at h2
    · exact .inr ⟨k, h1, by omega, h3⟩
/-! What is in a span. -/
def inT (frm to_ : List UInt8) (opn : Bool) (t : List UInt8) : Bool := !bytesLess t frm && (opn || bytesLess t to_)
def inN (lo hi i : Int) : Bool := decide (lo ≤ i) && decide (i ≤ hi)
def has (a : Sp) (v : Val) : Bool :=
  if a.kind = 0 then false else if a.kind = 4 then rightV v
  else rightV v && decide (v.k = a.kind) && !decide (v ∈ a.no) && (if a.kind = 2 then inT a.frm a.to_ a.opn v.t else inN a.lo a.hi v.i)
def lowest (k : Int) : Int := if k = 1 then -9223372036854775808 else 0
def highest (k : Int) : Int := if k = 1 then 9223372036854775807 else 1
/-- The one form of a set of ints, or bools. -/
structure CanonN (a : Sp) : Prop where
  kind : a.kind = 1 ∨ a.kind = 3
  frm : a.frm = []
  to_ : a.to_ = []
  opn : a.opn = false
  low : lowest a.kind ≤ a.lo
  ord : a.lo ≤ a.hi
  high : a.hi ≤ highest a.kind
  no : ∀ v ∈ a.no, v.k = a.kind ∧ v.t = [] ∧ a.lo < v.i ∧ v.i < a.hi
  rise : a.no.Pairwise fun u v => u.i < v.i
/-- A text of at most thirty-two bytes, or with a byte 0 more. -/
def Short (s : List UInt8) : Prop := s.length ≤ 32 ∨ ∃ u, s = u ++ [0] ∧ u.length ≤ 32
theorem Short.len {s : List UInt8} (h : Short s) : s.length ≤ 33 := by
  rcases h with h | ⟨u, rfl, h⟩
  · omega
  · simp; omega
/-- The one form of a set of texts. -/
structure CanonT (a : Sp) : Prop where
  kind : a.kind = 2
  lo : a.lo = 0
  hi : a.hi = 0
  flen : Short a.frm
  no : ∀ v ∈ a.no, v.k = 2 ∧ v.i = 0 ∧ v.t.length ≤ 32 ∧ bytesLess a.frm v.t = true ∧ (a.opn = false → bytesLess v.t a.to_ = true)
  rise : a.no.Pairwise fun u v => bytesLess u.t v.t = true
  isOpn : a.opn = true → a.to_ = []
  shut : a.opn = false → Short a.to_ ∧ bytesLess a.frm a.to_ = true ∧ ∀ u, a.to_ = u ++ [0] → (⟨2, 0, u⟩ : Val) ∉ a.no
/-- The one form of a set. -/
def Canon (a : Sp) : Prop := a = none_ ∨ a = any_ ∨ CanonN a ∨ CanonT a
theorem right_text (t : List UInt8) (h : t.length ≤ 64) : rightV ⟨2, 0, t⟩ = true := by rw [rightV_iff]; unfold Vals.right; simp [h]
theorem right_num {k i : Int} (hk : k = 1 ∨ k = 3) (h1 : lowest k ≤ i) (h2 : i ≤ highest k) : rightV ⟨k, i, []⟩ = true := by
  rw [rightV_iff]
  unfold Vals.right
  rcases hk with rfl | rfl
  · simp [lowest, highest] at h1 h2 ⊢; omega
  · simp [lowest, highest] at h1 h2 ⊢; omega
theorem has_N {a : Sp} (h : CanonN a) (v : Val) : has a v = (rightV v && decide (v.k = a.kind) && !decide (v ∈ a.no) && inN a.lo a.hi v.i) := by
  unfold has
  rcases h.kind with hk | hk <;> simp [hk]
theorem has_T {a : Sp} (h : CanonT a) (v : Val) : has a v = (rightV v && decide (v.k = 2) && !decide (v ∈ a.no) && inT a.frm a.to_ a.opn v.t) := by
  unfold has
  simp [h.kind]
theorem has_none (v : Val) : has none_ v = false := rfl
theorem has_any (v : Val) : has any_ v = rightV v := rfl
theorem N_iff {a : Sp} (h : CanonN a) (v : Val) : has a v = true ↔ rightV v = true ∧ v.k = a.kind ∧ v ∉ a.no ∧ a.lo ≤ v.i ∧ v.i ≤ a.hi := by
  rw [has_N h]
  simp [inN, and_assoc]
theorem T_iff {a : Sp} (h : CanonT a) (v : Val) : has a v = true ↔ rightV v = true ∧ v.k = 2 ∧ v ∉ a.no ∧ bytesLess v.t a.frm = false ∧ (a.opn = true ∨ bytesLess v.t a.to_ = true) := by
  rw [has_T h]
  simp [inT, and_assoc]
theorem has_right {a : Sp} {v : Val} (h : has a v = true) : rightV v = true := by
  unfold has at h
  split at h
  · simp at h
  · split at h
    · exact h
    · simp only [Bool.and_eq_true] at h
      exact h.1.1.1
theorem has_kind {a : Sp} {v : Val} (h : has a v = true) : a.kind = 4 ∨ v.k = a.kind := by
  unfold has at h
  split at h
  · simp at h
  · split at h
    · exact .inl (by assumption)
    · simp only [Bool.and_eq_true, decide_eq_true_eq] at h
      exact .inr h.1.1.2
theorem has_lo {a : Sp} (h : CanonN a) : has a ⟨a.kind, a.lo, []⟩ = true := by
  rw [N_iff h]
  have h1 := h.low
  have h2 := h.ord
  have h3 := h.high
  exact ⟨right_num h.kind h1 (by omega), rfl, fun hm => by have := (h.no _ hm).2.2.1; simp at this, Int.le_refl _, h2⟩
theorem has_hi {a : Sp} (h : CanonN a) : has a ⟨a.kind, a.hi, []⟩ = true := by
  rw [N_iff h]
  have h1 := h.low
  have h2 := h.ord
  have h3 := h.high
  exact ⟨right_num h.kind (by omega) h3, rfl, fun hm => by have := (h.no _ hm).2.2.2; simp at this, h2, Int.le_refl _⟩
theorem has_frm {a : Sp} (h : CanonT a) : has a ⟨2, 0, a.frm⟩ = true := by
  rw [T_iff h]
  have h1 := h.flen.len
  refine ⟨right_text _ (by omega), rfl, fun hm => ?_, Vals.less_irr _, ?_⟩
  · have := (h.no _ hm).2.2.2.1
    rw [Vals.less_irr] at this; simp at this
  · cases ho : a.opn with
    | true => exact .inl rfl
    | false => exact .inr (h.shut ho).2.1
/-- Wherever there is room for texts, there is one, with some bytes 0 more. -/
theorem has_far {a : Sp} (h : CanonT a) (x : List UInt8) (hx : x.length ≤ 33) (h1 : bytesLess x a.frm = false) (h2 : a.opn = true ∨ bytesLess x a.to_ = true) :
    ∃ j, x.length + j ≤ 33 ∧ has a ⟨2, 0, zs x j⟩ = true := by
  have hlong : (⟨2, 0, zs x (33 - x.length)⟩ : Val) ∉ a.no := fun hm => by
    have := (h.no _ hm).2.2.1
    rw [show (Val.mk 2 0 (zs x (33 - x.length))).t = zs x (33 - x.length) from rfl, zs_len] at this
    omega
  have hfr : ∀ j, bytesLess (zs x j) a.frm = false := fun j => le_trans h1 (zs_le x j)
  cases ho : a.opn with
  | true =>
    refine ⟨33 - x.length, by omega, ?_⟩
    rw [T_iff h]
    exact ⟨right_text _ (by rw [zs_len]; omega), rfl, hlong, hfr _, .inl ho⟩
  | false =>
    have h2' : bytesLess x a.to_ = true := by rcases h2 with h2 | h2; rw [ho] at h2; simp at h2; exact h2
    rcases zs_reach x a.to_ h2' (33 - x.length) with h3 | ⟨k, k1, k2, k3⟩
    · refine ⟨33 - x.length, by omega, ?_⟩
      rw [T_iff h]
      exact ⟨right_text _ (by rw [zs_len]; omega), rfl, hlong, hfr _, .inr h3⟩
    · have e : a.to_ = zs x (k - 1) ++ [0] := by rw [← zs_succ, k3]; congr 1; omega
      refine ⟨k - 1, by omega, ?_⟩
      rw [T_iff h]
      refine ⟨right_text _ (by rw [zs_len]; omega), rfl, (h.shut ho).2.2 _ e, hfr _, .inr ?_⟩
      show bytesLess (zs x (k - 1)) a.to_ = true
      rw [e]; exact lt_snoc _
/-! Each set has one form. -/
theorem rise_ext {A : Type} {r : A → A → Prop} (asym : ∀ x y, r x y → ¬ r y x) : ∀ (l m : List A), l.Pairwise r → m.Pairwise r → (∀ x, x ∈ l ↔ x ∈ m) → l = m
  | [], [], _, _, _ => rfl
  | [], y :: m, _, _, h => by have := (h y).2 (by simp); simp at this
  | x :: l, [], _, _, h => by have := (h x).1 (by simp); simp at this
  | x :: l, y :: m, hl, hm, h => by
    have hl' := List.pairwise_cons.1 hl
    have hm' := List.pairwise_cons.1 hm
    have e : x = y := by
      rcases List.mem_cons.1 ((h x).1 (by simp)) with e | hx
      · exact e
      · rcases List.mem_cons.1 ((h y).2 (by simp)) with e | hy
        · exact e.symm
        · exact absurd (hl'.1 y hy) (asym _ _ (hm'.1 x hx))
    subst e
    rw [rise_ext asym l m hl'.2 hm'.2 (fun z => ?_)]
    constructor
    · intro hz
      rcases List.mem_cons.1 ((h z).1 (List.mem_cons_of_mem _ hz)) with rfl | hz'
      · exact absurd (hl'.1 _ hz) (fun k => asym _ _ k k)
      · exact hz'
    · intro hz
      rcases List.mem_cons.1 ((h z).2 (List.mem_cons_of_mem _ hz)) with rfl | hz'
      · exact absurd (hm'.1 _ hz) (fun k => asym _ _ k k)
      · exact hz'
theorem Sp.ext_ {a b : Sp} (h1 : a.kind = b.kind) (h2 : a.lo = b.lo) (h3 : a.hi = b.hi) (h4 : a.frm = b.frm) (h5 : a.to_ = b.to_) (h6 : a.opn = b.opn) (h7 : a.no = b.no) : a = b := by cases a; cases b; simp_all
theorem N_not4 {a : Sp} (h : CanonN a) : a.kind ≠ 4 ∧ a.kind ≠ 2 ∧ a.kind ≠ 0 := by rcases h.kind with hk | hk <;> rw [hk] <;> decide
theorem T_not4 {a : Sp} (h : CanonT a) : a.kind ≠ 4 ∧ a.kind ≠ 0 := by rw [h.kind]; decide
theorem sub_N {a b : Sp} (ha : CanonN a) (hb : CanonN b) (h : ∀ v, has a v = true → has b v = true) : a.kind = b.kind ∧ b.lo ≤ a.lo ∧ a.hi ≤ b.hi := by
  have h1 := h _ (has_lo ha)
  have h2 := h _ (has_hi ha)
  have hk : a.kind = b.kind := by
    rcases has_kind h1 with e | e
    · exact absurd e (N_not4 hb).1
    · exact e
  rw [N_iff hb] at h1 h2
  exact ⟨hk, h1.2.2.2.1, h2.2.2.2.2⟩
theorem one_N {a b : Sp} (ha : CanonN a) (hb : CanonN b) (h : ∀ v, has a v = has b v) : a = b := by
  obtain ⟨hk, l1, l2⟩ := sub_N ha hb (fun v hv => by rw [← h]; exact hv)
  obtain ⟨_, l3, l4⟩ := sub_N hb ha (fun v hv => by rw [h]; exact hv)
  have e1 : a.lo = b.lo := by omega
  have e2 : a.hi = b.hi := by omega
  refine Sp.ext_ hk e1 e2 (ha.frm.trans hb.frm.symm) (ha.to_.trans hb.to_.symm) (ha.opn.trans hb.opn.symm) ?_
  have half : ∀ {a b : Sp}, CanonN a → CanonN b → (∀ v, has a v = has b v) → a.kind = b.kind → a.lo = b.lo → a.hi = b.hi → ∀ v, v ∈ a.no → v ∈ b.no := by
    intro a b ha hb h hk e1 e2 v hv
    obtain ⟨n1, n2, n3, n4⟩ := ha.no v hv
    by_cases hb' : v ∈ b.no
    · exact hb'
    · exfalso
      have hr : rightV v = true := by
        have e : v = ⟨a.kind, v.i, []⟩ := Val.ext_ n1 rfl n2
        rw [e]
        have := ha.low
        have := ha.high
        exact right_num ha.kind (by show _ ≤ v.i; omega) (by show v.i ≤ _; omega)
      have : has b v = true := (N_iff hb v).2 ⟨hr, n1.trans hk, hb', by omega, by omega⟩
      rw [← h, N_iff ha] at this
      exact this.2.2.1 hv
  exact rise_ext (fun x y h1 h2 => by omega) _ _ ha.rise hb.rise (fun v => ⟨half ha hb h hk e1 e2 v, half hb ha (fun v => (h v).symm) hk.symm e1.symm e2.symm v⟩)
/-- Texts' ends: what is in another set has no greater one. -/
theorem sub_T {a b : Sp} (ha : CanonT a) (hb : CanonT b) (h : ∀ v, has a v = true → has b v = true) :
    bytesLess a.frm b.frm = false ∧ (b.opn = true ∨ (a.opn = false ∧ bytesLess b.to_ a.to_ = false)) := by
  have h1 := h _ (has_frm ha)
  rw [T_iff hb] at h1
  refine ⟨h1.2.2.2.1, ?_⟩
  cases ho : b.opn with
  | true => exact .inl rfl
  | false =>
    right
    obtain ⟨s1, s2, s3⟩ := hb.shut ho
    have hfr : bytesLess a.frm b.to_ = true := by
      rcases h1.2.2.2.2 with h | h
      · rw [ho] at h; simp at h
      · exact h
    have key : ¬ (a.opn = true ∨ bytesLess b.to_ a.to_ = true) := by
      intro hk
      obtain ⟨j, _, hj⟩ := has_far ha b.to_ s1.len (le_of_lt hfr) hk
      have hj' := h _ hj
      rw [T_iff hb] at hj'
      rcases hj'.2.2.2.2 with h | h
      · rw [ho] at h; simp at h
      · rw [zs_le b.to_ j] at h; simp at h
    refine ⟨by cases hq : a.opn with | true => exact absurd (.inl hq) key | false => rfl, ?_⟩
    cases hq : bytesLess b.to_ a.to_ with
    | true => exact absurd (.inr hq) key
    | false => rfl
theorem one_T {a b : Sp} (ha : CanonT a) (hb : CanonT b) (h : ∀ v, has a v = has b v) : a = b := by
  obtain ⟨l1, l2⟩ := sub_T ha hb (fun v hv => by rw [← h]; exact hv)
  obtain ⟨l3, l4⟩ := sub_T hb ha (fun v hv => by rw [h]; exact hv)
  have e1 : a.frm = b.frm := Vals.less_tri _ _ l1 l3
  have e2 : a.opn = b.opn := by
    rcases l2 with l2 | ⟨l2, _⟩
    · rcases l4 with l4 | ⟨l4, _⟩
      · rw [l2, l4]
      · rw [l2] at l4; simp at l4
    · rcases l4 with l4 | ⟨l4, _⟩
      · rw [l2] at l4; simp at l4
      · rw [l2, l4]
  have e3 : a.to_ = b.to_ := by
    cases ho : a.opn with
    | true => rw [ha.isOpn ho, hb.isOpn (e2.symm.trans ho)]
    | false =>
      have ho' : b.opn = false := e2.symm.trans ho
      rcases l2 with l2 | ⟨_, l2⟩
      · rw [ho'] at l2; simp at l2
      · rcases l4 with l4 | ⟨_, l4⟩
        · rw [ho] at l4; simp at l4
        · exact Vals.less_tri _ _ l4 l2
  refine Sp.ext_ (ha.kind.trans hb.kind.symm) (ha.lo.trans hb.lo.symm) (ha.hi.trans hb.hi.symm) e1 e3 e2 ?_
  have half : ∀ {a b : Sp}, CanonT a → CanonT b → (∀ v, has a v = has b v) → a.frm = b.frm → a.opn = b.opn → a.to_ = b.to_ → ∀ v, v ∈ a.no → v ∈ b.no := by
    intro a b ha hb h e1 e2 e3 v hv
    obtain ⟨n1, n2, n3, n4, n5⟩ := ha.no v hv
    by_cases hb' : v ∈ b.no
    · exact hb'
    · exfalso
      have hr : rightV v = true := by
        have e : v = ⟨2, 0, v.t⟩ := Val.ext_ n1 n2 rfl
        rw [e]
        exact right_text _ (by omega)
      have : has b v = true := (T_iff hb v).2 ⟨hr, n1, hb', by rw [← e1]; exact le_of_lt n4, by
        cases ho : a.opn with
        | true => exact .inl (e2 ▸ ho)
        | false => exact .inr (by rw [← e3]; exact n5 ho)⟩
      rw [← h, T_iff ha] at this
      exact this.2.2.1 hv
  exact rise_ext (fun x y h1 h2 => by rw [Vals.less_asym _ _ h1] at h2; simp at h2) _ _ ha.rise hb.rise (fun v => ⟨half ha hb h e1 e2 e3 v, half hb ha (fun v => (h v).symm) e1.symm e2.symm e3.symm v⟩)
theorem any_kinds (a : Sp) (h4 : a.kind ≠ 4) (h : ∀ v, rightV v = true → has a v = true) : False := by
  have h1 := h ⟨1, 0, []⟩ rfl
  have h2 := h ⟨2, 0, []⟩ rfl
  rcases has_kind h1 with e | e
  · exact h4 e
  · rcases has_kind h2 with e' | e'
    · exact h4 e'
    · rw [← e'] at e; revert e; decide
theorem one {a b : Sp} (ha : Canon a) (hb : Canon b) (h : ∀ v, has a v = has b v) : a = b := by
  rcases ha with rfl | rfl | ha | ha <;> rcases hb with rfl | rfl | hb | hb
  · rfl
  · exact absurd (h ⟨1, 0, []⟩) (by decide)
  · have := has_lo hb; rw [← h, has_none] at this; simp at this
  · have := has_frm hb; rw [← h, has_none] at this; simp at this
  · exact absurd (h ⟨1, 0, []⟩) (by decide)
  · rfl
  · exact (any_kinds b (N_not4 hb).1 (fun v hv => by rw [← h, has_any]; exact hv)).elim
  · exact (any_kinds b (T_not4 hb).1 (fun v hv => by rw [← h, has_any]; exact hv)).elim
  · have := has_lo ha; rw [h, has_none] at this; simp at this
  · exact (any_kinds a (N_not4 ha).1 (fun v hv => by rw [h, has_any]; exact hv)).elim
  · exact one_N ha hb h
  · have := has_kind ((h _).symm.trans (has_lo ha))
    rcases this with e | e
    · exact absurd e (T_not4 hb).1
    · rw [hb.kind] at e; exact absurd e (N_not4 ha).2.1
  · have := has_frm ha; rw [h, has_none] at this; simp at this
  · exact (any_kinds a (T_not4 ha).1 (fun v hv => by rw [h, has_any]; exact hv)).elim
  · have := has_kind ((h _).symm.trans (has_frm ha))
    rcases this with e | e
    · exact absurd e (N_not4 hb).1
    · exact absurd e.symm (N_not4 hb).2.1
  · exact one_T ha hb h
/-! Is a span in another one? -/
def inn (a b : Sp) : Bool :=
  if a.kind = 0 ∨ b.kind = 4 then true else if a.kind ≠ b.kind then false
  else !(b.no.any fun v => has a v) && (if a.kind = 2 then !bytesLess a.frm b.frm && (b.opn || (!a.opn && !bytesLess b.to_ a.to_)) else decide (b.lo ≤ a.lo) && decide (a.hi ≤ b.hi))
theorem no_any {a b : Sp} : (b.no.any fun v => has a v) = false ↔ ∀ v, has a v = true → v ∉ b.no := by
  rw [Bool.eq_false_iff]
  simp only [ne_eq, List.any_eq_true, not_exists, not_and]
  exact ⟨fun h v hv hm => h v hm hv, fun h v hm hv => h v hv hm⟩
theorem in_iff {a b : Sp} (ha : Canon a) (hb : Canon b) : inn a b = true ↔ ∀ v, has a v = true → has b v = true := by
  unfold inn
  by_cases h0 : a.kind = 0 ∨ b.kind = 4
  · rw [if_pos h0]
    refine ⟨fun _ v hv => ?_, fun _ => rfl⟩
    rcases h0 with h0 | h0
    · unfold has at hv; rw [if_pos h0] at hv; simp at hv
    · unfold has; rw [h0]; simpa using has_right hv
  · rw [if_neg h0]
    have h1 : a.kind ≠ 0 := fun e => h0 (.inl e)
    have h2 : b.kind ≠ 4 := fun e => h0 (.inr e)
    by_cases hk : a.kind = b.kind
    · rw [if_neg (by simpa using hk)]
      rcases ha with rfl | rfl | ha | ha
      · exact absurd rfl h1
      · exact absurd hk.symm h2
      · rcases hb with rfl | rfl | hb | hb
        · exact absurd hk (N_not4 ha).2.2
        · exact absurd rfl h2
        · rw [if_neg (N_not4 ha).2.1]
          constructor
          · intro h v hv
            simp only [Bool.and_eq_true, Bool.not_eq_true', decide_eq_true_eq] at h
            obtain ⟨g1, g2, g3⟩ := h
            have hn := no_any.1 g1 v hv
            rw [N_iff ha] at hv
            exact (N_iff hb v).2 ⟨hv.1, hv.2.1.trans hk, hn, by omega, by omega⟩
          · intro h
            obtain ⟨_, g1, g2⟩ := sub_N ha hb h
            simp only [Bool.and_eq_true, Bool.not_eq_true', decide_eq_true_eq]
            refine ⟨no_any.2 fun v hv => ?_, g1, g2⟩
            have := h v hv
            rw [N_iff hb] at this
            exact this.2.2.1
        · rw [hb.kind] at hk; exact absurd hk (N_not4 ha).2.1
      · rcases hb with rfl | rfl | hb | hb
        · exact absurd hk h1
        · exact absurd rfl h2
        · rw [ha.kind] at hk; exact absurd hk.symm (N_not4 hb).2.1
        · rw [if_pos ha.kind]
          constructor
          · intro h v hv
            simp only [Bool.and_eq_true, Bool.not_eq_true', Bool.or_eq_true] at h
            obtain ⟨g1, g2, g3⟩ := h
            have hn := no_any.1 g1 v hv
            rw [T_iff ha] at hv
            refine (T_iff hb v).2 ⟨hv.1, hv.2.1, hn, le_trans g2 hv.2.2.2.1, ?_⟩
            rcases g3 with g3 | ⟨g3, g4⟩
            · exact .inl g3
            · rcases hv.2.2.2.2 with k | k
              · rw [g3] at k; simp at k
              · exact .inr (lt_of_lt_of_le k g4)
          · intro h
            obtain ⟨g1, g2⟩ := sub_T ha hb h
            simp only [Bool.and_eq_true, Bool.not_eq_true', Bool.or_eq_true]
            refine ⟨no_any.2 fun v hv => ?_, g1, g2⟩
            have := h v hv
            rw [T_iff hb] at this
            exact this.2.2.1
    · rw [if_pos hk]
      refine ⟨fun h => by simp at h, fun h => ?_⟩
      exfalso
      rcases ha with rfl | rfl | ha | ha
      · exact h1 rfl
      · exact any_kinds b h2 (fun v hv => h v (by rw [has_any]; exact hv))
      · rcases has_kind (h _ (has_lo ha)) with e | e
        · exact h2 e
        · exact hk e
      · rcases has_kind (h _ (has_frm ha)) with e | e
        · exact h2 e
        · exact hk (ha.kind.trans e)
/-! Spans of numbers but some, of texts but some. -/
theorem has_wrong {a : Sp} {v : Val} (h : rightV v = false) : has a v = false := by
  cases hq : has a v with
  | false => rfl
  | true => rw [has_right hq] at h; simp at h
theorem one_right {a b : Sp} (ha : Canon a) (hb : Canon b) (h : ∀ v, rightV v = true → has a v = has b v) : a = b :=
  one ha hb fun v => by
    cases hr : rightV v with
    | false => rw [has_wrong hr, has_wrong hr]
    | true => exact h v hr
/-- The span of the numbers of a kind from lo to hi, but some. -/
def IsInts (k lo hi : Int) (l : List Val) (r : Sp) : Prop := Canon r ∧ ∀ v, rightV v = true → (has r v = true ↔ v.k = k ∧ lo ≤ v.i ∧ v.i ≤ hi ∧ v ∉ l)
/-- The span of the texts from a text on, ahead of an end, but some. -/
def IsTexts (frm to_ : List UInt8) (opn : Bool) (l : List Val) (r : Sp) : Prop :=
  Canon r ∧ ∀ v, rightV v = true → (has r v = true ↔ v.k = 2 ∧ bytesLess v.t frm = false ∧ (opn = true ∨ bytesLess v.t to_ = true) ∧ v ∉ l)
theorem right_numT {v : Val} (hr : rightV v = true) (hk : v.k = 1 ∨ v.k = 3) : v.t = [] := by
  rw [rightV_iff] at hr
  rcases Vals.right_cases hr.1 with ⟨_, h⟩ | ⟨h, _⟩ | ⟨_, h, _⟩
  · exact h
  · omega
  · exact h
theorem right_textI {v : Val} (hr : rightV v = true) (hk : v.k = 2) : v.i = 0 ∧ v.t.length ≤ 64 := by
  rw [rightV_iff] at hr
  rcases Vals.right_cases hr.1 with ⟨h, _⟩ | ⟨_, h⟩ | ⟨h, _⟩
  · omega
  · exact h
  · omega
theorem ints_none {k lo hi : Int} {l : List Val} (hk : k = 1 ∨ k = 3) (h : ∀ x, lo ≤ x → x ≤ hi → (⟨k, x, []⟩ : Val) ∈ l) : IsInts k lo hi l none_ := by
  refine ⟨.inl rfl, fun v hr => ?_⟩
  rw [has_none]
  refine ⟨fun h => by simp at h, fun ⟨h1, h2, h3, h4⟩ => ?_⟩
  have e : v = ⟨k, v.i, []⟩ := Val.ext_ h1 rfl (right_numT hr (h1 ▸ hk))
  exact absurd (e ▸ h v.i h2 h3) h4
theorem ints_mk {k lo hi a b : Int} {l m : List Val} (hk : k = 1 ∨ k = 3) (h1 : lowest k ≤ a) (h2 : b ≤ highest k) (hab : a ≤ b) (hlo : lo ≤ a) (hhi : b ≤ hi)
    (ga : ∀ x, lo ≤ x → x < a → (⟨k, x, []⟩ : Val) ∈ l) (gb : ∀ x, b < x → x ≤ hi → (⟨k, x, []⟩ : Val) ∈ l) (na : (⟨k, a, []⟩ : Val) ∉ l) (nb : (⟨k, b, []⟩ : Val) ∉ l)
    (hm : ∀ v, v ∈ m ↔ v ∈ l ∧ v.k = k ∧ v.t = [] ∧ a < v.i ∧ v.i < b) (hrise : m.Pairwise fun u v => u.i < v.i) : IsInts k lo hi l ⟨k, a, b, [], [], false, m⟩ := by
  have hc : CanonN ⟨k, a, b, [], [], false, m⟩ := ⟨hk, rfl, rfl, rfl, h1, hab, h2, fun v hv => ((hm v).1 hv).2, hrise⟩
  refine ⟨.inr (.inr (.inl hc)), fun v hr => ?_⟩
  rw [N_iff hc]
  constructor
  · rintro ⟨_, g1, g2, g3, g4⟩
    simp only at g1 g2 g3 g4
    refine ⟨g1, by omega, by omega, fun hv => ?_⟩
    have e : v = ⟨k, v.i, []⟩ := Val.ext_ g1 rfl (right_numT hr (g1 ▸ hk))
    have hx : v.i ≠ a := fun h => na (by rw [← h, ← e]; exact hv)
    have hy : v.i ≠ b := fun h => nb (by rw [← h, ← e]; exact hv)
    exact g2 ((hm v).2 ⟨hv, g1, right_numT hr (g1 ▸ hk), by omega, by omega⟩)
  · rintro ⟨g1, g2, g3, g4⟩
    have e : v = ⟨k, v.i, []⟩ := Val.ext_ g1 rfl (right_numT hr (g1 ▸ hk))
    refine ⟨hr, g1, fun hv => g4 ((hm v).1 hv).1, ?_, ?_⟩
    · show a ≤ v.i
      rcases Int.lt_or_le v.i a with h | h
      · exact absurd (by rw [e]; exact ga v.i g2 h) g4
      · exact h
    · show v.i ≤ b
      rcases Int.lt_or_le b v.i with h | h
      · exact absurd (by rw [e]; exact gb v.i h g3) g4
      · exact h
/-- A text that was moved on, as it stood in some. -/
theorem moved_le {frm : List UInt8} {l : List Val} {a : Nat} (h : ∀ j, j < a → (⟨2, 0, zs frm j⟩ : Val) ∈ l) {v : Val} (hr : rightV v = true) (hk : v.k = 2) (hv : v ∉ l) (h1 : bytesLess v.t frm = false) : bytesLess v.t (zs frm a) = false := by
  induction a with
  | zero => rw [zs_zero]; exact h1
  | succ a ih =>
    have h2 := ih (fun j hj => h j (by omega))
    rw [zs_succ]
    rcases less_or (zs frm a) v.t with h3 | h3 | h3
    · exact next_le _ _ h3
    · exfalso
      have e : v = ⟨2, 0, zs frm a⟩ := Val.ext_ hk (right_textI hr hk).1 h3.symm
      exact hv (by rw [e]; exact h a (by omega))
    · rw [h3] at h2; simp at h2
/-- An end that was moved back, as what is ahead of it stood in some. -/
theorem moved_lt {e : List UInt8} {l : List Val} {b : Nat} (h : ∀ j, j < b → (⟨2, 0, zs e j⟩ : Val) ∈ l) {v : Val} (hr : rightV v = true) (hk : v.k = 2) (hv : v ∉ l) : bytesLess v.t (zs e b) = true ↔ bytesLess v.t e = true := by
  induction b with
  | zero => rw [zs_zero]
  | succ b ih =>
    have h2 := ih (fun j hj => h j (by omega))
    rw [← h2, zs_succ]
    constructor
    · intro h3
      rcases less_or v.t (zs e b) with h4 | h4 | h4
      · exact h4
      · exfalso
        have e' : v = ⟨2, 0, zs e b⟩ := Val.ext_ hk (right_textI hr hk).1 h4
        exact hv (by rw [e']; exact h b (by omega))
      · rw [next_le _ _ h4] at h3; simp at h3
    · intro h3
      exact Vals.less_trans _ _ _ h3 (lt_snoc _)
theorem moved_short {frm : List UInt8} {l : List Val} {a : Nat} (hl : ∀ v ∈ l, v.t.length ≤ 32) (h : Short frm) (ga : ∀ j, j < a → (⟨2, 0, zs frm j⟩ : Val) ∈ l) : Short (zs frm a) := by
  rcases a with _ | a
  · rw [zs_zero]; exact h
  · exact .inr ⟨zs frm a, zs_succ _ _, hl _ (ga a (by omega))⟩
theorem moved_short' {e : List UInt8} {l : List Val} {b : Nat} (hl : ∀ v ∈ l, v.t.length ≤ 32) (h : Short (zs e b)) (gb : ∀ j, j < b → (⟨2, 0, zs e j⟩ : Val) ∈ l) : Short e := by
  rcases b with _ | b
  · rw [zs_zero] at h; exact h
  · have := hl _ (gb 0 (by omega))
    rw [zs_zero] at this
    exact .inl this
theorem texts_none {frm e : List UInt8} {l : List Val} {a b : Nat} (ga : ∀ j, j < a → (⟨2, 0, zs frm j⟩ : Val) ∈ l) (gb : ∀ j, j < b → (⟨2, 0, zs e j⟩ : Val) ∈ l) (h : bytesLess (zs frm a) e = false) : IsTexts frm (zs e b) false l none_ := by
  refine ⟨.inl rfl, fun v hr => ?_⟩
  rw [has_none]
  refine ⟨fun h => by simp at h, fun ⟨h1, h2, h3, h4⟩ => ?_⟩
  exfalso
  have g1 := moved_le ga hr h1 h4 h2
  rcases h3 with h3 | h3
  · simp at h3
  · rw [moved_lt gb hr h1 h4] at h3
    rw [le_trans h g1] at h3; simp at h3
theorem texts_mk {frm to_ e : List UInt8} {opn : Bool} {l m : List Val} {a b : Nat} (ga : ∀ j, j < a → (⟨2, 0, zs frm j⟩ : Val) ∈ l) (na : (⟨2, 0, zs frm a⟩ : Val) ∉ l) (gb : opn = false → to_ = zs e b ∧ ∀ j, j < b → (⟨2, 0, zs e j⟩ : Val) ∈ l)
    (hf : Short (zs frm a)) (ho : opn = true → e = []) (hs : opn = false → Short e ∧ bytesLess (zs frm a) e = true ∧ ∀ u, e = u ++ [0] → (⟨2, 0, u⟩ : Val) ∉ l)
    (hl : ∀ v ∈ l, v.k = 2 ∧ v.i = 0 ∧ v.t.length ≤ 32) (hm : ∀ v, v ∈ m ↔ v ∈ l ∧ bytesLess v.t (zs frm a) = false ∧ (opn = true ∨ bytesLess v.t e = true)) (hrise : m.Pairwise fun u v => bytesLess u.t v.t = true) :
    IsTexts frm to_ opn l ⟨2, 0, 0, zs frm a, e, opn, m⟩ := by
  have hc : CanonT ⟨2, 0, 0, zs frm a, e, opn, m⟩ := by
    refine ⟨rfl, rfl, rfl, hf, fun v hv => ?_, hrise, ho, fun h => ⟨(hs h).1, (hs h).2.1, fun u hu hv => (hs h).2.2 u hu ((hm _).1 hv).1⟩⟩
    obtain ⟨g1, g2, g3⟩ := (hm v).1 hv
    obtain ⟨k1, k2, k3⟩ := hl v g1
    refine ⟨k1, k2, k3, ?_, fun h => ?_⟩
    · rcases less_or (zs frm a) v.t with h | h | h
      · exact h
      · exact absurd (by rw [show (⟨2, 0, zs frm a⟩ : Val) = v from Val.ext_ k1.symm k2.symm h]; exact g1) na
      · rw [h] at g2; simp at g2
    · rcases g3 with g3 | g3
      · rw [show opn = false from h] at g3; simp at g3
      · exact g3
  refine ⟨.inr (.inr (.inr hc)), fun v hr => ?_⟩
  rw [T_iff hc]
  constructor
  · rintro ⟨_, g1, g2, g3, g4⟩
    simp only at g2 g3 g4
    have hv : v ∉ l := fun hv => g2 ((hm v).2 ⟨hv, g3, g4⟩)
    refine ⟨g1, le_trans (zs_le frm a) g3, ?_, hv⟩
    cases hop : opn with
    | true => exact .inl rfl
    | false =>
      obtain ⟨e1, e2⟩ := gb hop
      rw [hop] at g4
      rcases g4 with g4 | g4
      · simp at g4
      · exact .inr (by rw [e1]; exact (moved_lt e2 hr g1 hv).2 g4)
  · rintro ⟨g1, g2, g3, g4⟩
    refine ⟨hr, g1, fun hv => g4 ((hm v).1 hv).1, moved_le ga hr g1 g4 g2, ?_⟩
    cases hop : opn with
    | true => exact .inl rfl
    | false =>
      obtain ⟨e1, e2⟩ := gb hop
      rw [hop] at g3
      rcases g3 with g3 | g3
      · simp at g3
      · rw [e1] at g3
        exact .inr ((moved_lt e2 hr g1 g4).1 g3)
theorem IsInts.one {k lo hi : Int} {l : List Val} {r r' : Sp} (h : IsInts k lo hi l r) (h' : IsInts k lo hi l r') : r = r' :=
  one_right h.1 h'.1 fun v hr => by rw [Bool.eq_iff_iff, h.2 v hr, h'.2 v hr]
theorem IsTexts.one {frm to_ : List UInt8} {opn : Bool} {l : List Val} {r r' : Sp} (h : IsTexts frm to_ opn l r) (h' : IsTexts frm to_ opn l r') : r = r' :=
  one_right h.1 h'.1 fun v hr => by rw [Bool.eq_iff_iff, h.2 v hr, h'.2 v hr]
/-! What is in both. -/
def IsMeet (a b r : Sp) : Prop := Canon r ∧ ∀ v, rightV v = true → (has r v = true ↔ has a v = true ∧ has b v = true)
theorem IsMeet.one {a b r r' : Sp} (h : IsMeet a b r) (h' : IsMeet a b r') : r = r' :=
  one_right h.1 h'.1 fun v hr => by rw [Bool.eq_iff_iff, h.2 v hr, h'.2 v hr]
theorem IsMeet.has {a b r : Sp} (h : IsMeet a b r) (v : Val) : has r v = (has a v && has b v) := by
  cases hr : rightV v with
  | false => rw [has_wrong hr, has_wrong hr]; rfl
  | true => rw [Bool.eq_iff_iff, h.2 v hr]; simp
theorem meet_any {a : Sp} (h : Canon a) : IsMeet a any_ a ∧ IsMeet any_ a a :=
  ⟨⟨h, fun v hr => by rw [has_any]; simp [hr]⟩, ⟨h, fun v hr => by rw [has_any]; simp [hr]⟩⟩
theorem meet_none (a b : Sp) (h : a = none_ ∨ b = none_) : IsMeet a b none_ := by
  refine ⟨.inl rfl, fun v _ => ?_⟩
  rw [has_none]
  rcases h with rfl | rfl <;> simp [has_none]
theorem meet_kinds {a b : Sp} (ha : a.kind ≠ 4) (hb : b.kind ≠ 4) (h : a.kind ≠ b.kind) : IsMeet a b none_ := by
  refine ⟨.inl rfl, fun v _ => ?_⟩
  rw [has_none]
  refine ⟨fun h => by simp at h, fun ⟨h1, h2⟩ => ?_⟩
  rcases has_kind h1 with e | e
  · exact absurd e ha
  · rcases has_kind h2 with e' | e'
    · exact absurd e' hb
    · exact absurd (e.symm.trans e') h
theorem meet_N {a b r : Sp} (ha : CanonN a) (hb : CanonN b) (hk : a.kind = b.kind) {lo hi : Int} (hlo : ∀ x, lo ≤ x ↔ a.lo ≤ x ∧ b.lo ≤ x) (hhi : ∀ x, x ≤ hi ↔ x ≤ a.hi ∧ x ≤ b.hi) {l : List Val} (hl : ∀ v, v ∈ l ↔ v ∈ a.no ∨ v ∈ b.no) (h : IsInts a.kind lo hi l r) : IsMeet a b r := by
  refine ⟨h.1, fun v hr => ?_⟩
  rw [h.2 v hr, N_iff ha, N_iff hb, hlo, hhi, hl]
  constructor
  · rintro ⟨g1, ⟨g2, g3⟩, ⟨g4, g5⟩, g6⟩
    exact ⟨⟨hr, g1, fun k => g6 (.inl k), g2, g4⟩, ⟨hr, g1.trans hk, fun k => g6 (.inr k), g3, g5⟩⟩
  · rintro ⟨⟨_, g1, g2, g3, g4⟩, ⟨_, _, g5, g6, g7⟩⟩
    exact ⟨g1, ⟨g3, g6⟩, ⟨g4, g7⟩, fun k => k.elim g2 g5⟩
theorem meet_T {a b r : Sp} (ha : CanonT a) (hb : CanonT b) {frm to_ : List UInt8} {opn : Bool} (hf : ∀ t, bytesLess t frm = false ↔ bytesLess t a.frm = false ∧ bytesLess t b.frm = false)
    (ht : ∀ t, (opn = true ∨ bytesLess t to_ = true) ↔ (a.opn = true ∨ bytesLess t a.to_ = true) ∧ (b.opn = true ∨ bytesLess t b.to_ = true)) {l : List Val} (hl : ∀ v, v ∈ l ↔ v ∈ a.no ∨ v ∈ b.no) (h : IsTexts frm to_ opn l r) : IsMeet a b r := by
  refine ⟨h.1, fun v hr => ?_⟩
  rw [h.2 v hr, T_iff ha, T_iff hb, hf, ht, hl]
  constructor
  · rintro ⟨g1, ⟨g2, g3⟩, ⟨g4, g5⟩, g6⟩
    exact ⟨⟨hr, g1, fun k => g6 (.inl k), g2, g4⟩, ⟨hr, g1, fun k => g6 (.inr k), g3, g5⟩⟩
  · rintro ⟨⟨_, g1, g2, g3, g4⟩, ⟨_, _, g5, g6, g7⟩⟩
    exact ⟨g1, ⟨g3, g6⟩, ⟨g4, g7⟩, fun k => k.elim g2 g5⟩
end Spans
