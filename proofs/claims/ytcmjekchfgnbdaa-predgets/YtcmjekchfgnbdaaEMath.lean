/- Package event as plain mathematics: attributes, which events are right, what is made of attributes, what is looked up. No program. -/
import Derived.Test.YtcmjekchfgnbdaaVMath
namespace Ev
open Go.Op (bytesLess)
/-- An attribute: its name, and its value's kind, int and text. -/
structure At where
  n : List UInt8
  k : Int
  i : Int
  t : List UInt8
instance : Inhabited At := ⟨⟨[], 0, 0, []⟩⟩
instance : DecidableEq At := fun a b => decidable_of_iff (a.n = b.n ∧ a.k = b.k ∧ a.i = b.i ∧ a.t = b.t) (by cases a; cases b; simp)
/-- May an attribute stand in an event? -/
def ok (a : At) : Bool := decide (1 ≤ a.n.length) && decide (a.n.length ≤ 16) && Vals.right a.k a.i a.t
def lt (a b : At) : Prop := bytesLess a.n b.n = true
instance (a b : At) : Decidable (lt a b) := inferInstanceAs (Decidable (_ = _))
theorem lt_irr (a : At) : ¬ lt a a := by unfold lt; rw [Vals.less_irr]; simp
theorem lt_trans {a b c : At} : lt a b → lt b c → lt a c := Vals.less_trans _ _ _
theorem lt_asym {a b : At} : lt a b → ¬ lt b a := fun h => by unfold lt; rw [Vals.less_asym _ _ h]; simp
theorem lt_tri {a b : At} (h : ¬ lt a b) (k : ¬ lt b a) : a.n = b.n := Vals.less_tri _ _ (by simpa [lt] using h) (by simpa [lt] using k)
theorem lt_ne {a b : At} (h : lt a b) : a.n ≠ b.n := fun e => by unfold lt at h; rw [e, Vals.less_irr] at h; simp at h
/-- Is an event right? -/
def Right (es : List At) : Prop := es.length ≤ 24 ∧ (∀ a ∈ es, ok a = true) ∧ es.Pairwise lt
instance (es : List At) : Decidable (Right es) := inferInstanceAs (Decidable (_ ∧ _ ∧ _))
/-- What stands at a place is fine, with what stands ahead of it. -/
def Fine (es : List At) (k : Nat) : Prop := ∀ (h : k < es.length), ok es[k] = true ∧ (0 < k → lt (es[k - 1]'(by omega)) es[k])
theorem pairwise_of_next : ∀ (es : List At), (∀ k (h : k + 1 < es.length), lt (es[k]'(by omega)) es[k + 1]) → es.Pairwise lt
  | [], _ => .nil
  | [_], _ => List.pairwise_singleton _ _
  | a :: b :: r, h => by
    have hb := pairwise_of_next (b :: r) (fun k hk => h (k + 1) (by simp at hk ⊢; omega))
    refine List.pairwise_cons.2 ⟨fun c hc => ?_, hb⟩
    have hab : lt a b := h 0 (by simp)
    rcases List.mem_cons.1 hc with rfl | hc
    · exact hab
    · exact lt_trans hab ((List.pairwise_cons.1 hb).1 c hc)
theorem right_iff (es : List At) : Right es ↔ es.length ≤ 24 ∧ ∀ k, Fine es k := by
  constructor
  · rintro ⟨h1, h2, h3⟩
    refine ⟨h1, fun k hk => ⟨h2 _ (List.getElem_mem hk), fun h0 => ?_⟩⟩
    exact List.pairwise_iff_getElem.1 h3 (k - 1) k (by omega) hk (by omega)
  · rintro ⟨h1, h2⟩
    refine ⟨h1, fun a ha => ?_, pairwise_of_next es fun k hk => ?_⟩
    · obtain ⟨k, hk, rfl⟩ := List.getElem_of_mem ha
      exact (h2 k hk).1
    · exact (h2 (k + 1) hk).2 (by omega)
/-- Attributes in their order. -/
def IsSort (es out : List At) : Prop := out.Perm es ∧ out.Pairwise lt
theorem IsSort.one {es out out' : List At} (h : IsSort es out) (k : IsSort es out') : out = out' :=
  (h.1.trans k.1.symm).eq_of_pairwise (fun _ _ _ _ h1 h2 => absurd h2 (lt_asym h1)) h.2 k.2
theorem IsSort.perm {es es' out : List At} (h : IsSort es out) (p : es.Perm es') : IsSort es' out := ⟨h.1.trans p, h.2⟩
theorem IsSort.length {es out : List At} (h : IsSort es out) : out.length = es.length := h.1.length_eq
def Once (es : List At) : Prop := (es.map At.n).Nodup
instance (es : List At) : Decidable (Once es) := inferInstanceAs (Decidable (List.Nodup _))
theorem once_of_sort {es out : List At} (h : IsSort es out) : Once es := by
  unfold Once
  refine (h.1.map At.n).nodup_iff.1 ?_
  exact List.pairwise_map.2 (h.2.imp fun h => lt_ne h)
theorem Once.perm {es es' : List At} (h : Once es) (p : es.Perm es') : Once es' := (p.map At.n).nodup_iff.1 h
/-- The error that is told of attributes. -/
def mkE (es : List At) : Int := if 24 < es.length then 4 else if ∃ a ∈ es, ok a = false then 1 else if Once es then 0 else 8
/-- What is made of attributes. -/
def Made (es : List At) (c : Int) (out : List At) : Prop := c = mkE es ∧ (c = 0 → IsSort es out) ∧ (c ≠ 0 → out = [])
theorem mkE_perm {es es' : List At} (p : es.Perm es') : mkE es = mkE es' := by
  unfold mkE
  have e1 : (24 < es.length) = (24 < es'.length) := by rw [p.length_eq]
  have e2 : (∃ a ∈ es, ok a = false) = (∃ a ∈ es', ok a = false) := propext ⟨fun ⟨a, h, k⟩ => ⟨a, p.mem_iff.1 h, k⟩, fun ⟨a, h, k⟩ => ⟨a, p.mem_iff.2 h, k⟩⟩
  have e3 : Once es = Once es' := propext ⟨fun h => h.perm p, fun h => h.perm p.symm⟩
  simp only [e1, e2, e3]
theorem Made.one {es out out' : List At} {c c' : Int} (h : Made es c out) (k : Made es c' out') : c = c' ∧ out = out' := by
  obtain ⟨h1, h2, h3⟩ := h
  obtain ⟨k1, k2, k3⟩ := k
  refine ⟨h1.trans k1.symm, ?_⟩
  by_cases hc : c = 0
  · exact (h2 hc).one (k2 (by omega))
  · rw [h3 hc, k3 (by omega)]
theorem Made.perm {es es' out : List At} {c : Int} (h : Made es c out) (p : es.Perm es') : Made es' c out :=
  ⟨h.1.trans (mkE_perm p), fun hc => (h.2.1 hc).perm p, h.2.2⟩
theorem made_long {es : List At} (h : 24 < es.length) : Made es 4 [] := ⟨by unfold mkE; rw [if_pos h], fun h => absurd h (by decide), fun _ => rfl⟩
theorem made_bad {es : List At} (h : es.length ≤ 24) (k : ∃ a ∈ es, ok a = false) : Made es 1 [] :=
  ⟨by unfold mkE; rw [if_neg (by omega), if_pos k], fun h => absurd h (by decide), fun _ => rfl⟩
theorem made_twice {es : List At} (h : es.length ≤ 24) (k : ∀ a ∈ es, ok a = true) (h2 : ¬ Once es) : Made es 8 [] :=
  ⟨by unfold mkE; rw [if_neg (by omega), if_neg (fun ⟨a, ha, hk⟩ => by rw [k a ha] at hk; cases hk), if_neg h2], fun h => absurd h (by decide), fun _ => rfl⟩
theorem made_good {es out : List At} (h : es.length ≤ 24) (k : ∀ a ∈ es, ok a = true) (hs : IsSort es out) : Made es 0 out :=
  ⟨by unfold mkE; rw [if_neg (by omega), if_neg (fun ⟨a, ha, hk⟩ => by rw [k a ha] at hk; cases hk), if_pos (once_of_sort hs)], fun _ => hs, fun h => absurd rfl h⟩
theorem Made.zero {es out : List At} (h : Made es 0 out) : es.length ≤ 24 ∧ (∀ a ∈ es, ok a = true) ∧ IsSort es out := by
  have h1 := h.1
  unfold mkE at h1
  by_cases c1 : 24 < es.length
  · rw [if_pos c1] at h1; omega
  · rw [if_neg c1] at h1
    by_cases c2 : ∃ a ∈ es, ok a = false
    · rw [if_pos c2] at h1; omega
    · refine ⟨by omega, fun a ha => ?_, h.2.1 rfl⟩
      cases hk : ok a
      · exact absurd ⟨a, ha, hk⟩ c2
      · rfl
theorem mkE_zero (es : List At) : mkE es = 0 ↔ es.length ≤ 24 ∧ (∀ a ∈ es, ok a = true) ∧ Once es := by
  unfold mkE
  by_cases c1 : 24 < es.length
  · rw [if_pos c1]; constructor
    · intro h; omega
    · rintro ⟨h, _⟩; omega
  · rw [if_neg c1]
    by_cases c2 : ∃ a ∈ es, ok a = false
    · rw [if_pos c2]; constructor
      · intro h; omega
      · rintro ⟨_, h, _⟩
        obtain ⟨a, ha, hk⟩ := c2
        rw [h a ha] at hk; cases hk
    · rw [if_neg c2]
      have hall : ∀ a ∈ es, ok a = true := fun a ha => by
        cases hk : ok a
        · exact absurd ⟨a, ha, hk⟩ c2
        · rfl
      by_cases c3 : Once es
      · rw [if_pos c3]; exact ⟨fun _ => ⟨by omega, hall, c3⟩, fun _ => rfl⟩
      · rw [if_neg c3]; constructor
        · intro h; omega
        · rintro ⟨_, _, h⟩; exact absurd h c3
theorem right_made {es : List At} (h : Right es) : Made es 0 es := made_good h.1 h.2.1 ⟨.refl _, h.2.2⟩
theorem Made.right {es out : List At} (h : Made es 0 out) : Right out := by
  obtain ⟨h1, h2, h3⟩ := h.zero
  exact ⟨by rw [h3.length]; exact h1, fun a ha => h2 a (h3.1.mem_iff.1 ha), h3.2⟩
/-- What is looked up. -/
def find (es : List At) (s : List UInt8) : Option At := es.find? fun a => a.n == s
def got (es : List At) (s : List UInt8) : At := (find es s).getD default
theorem find_none {es : List At} {s : List UInt8} (h : ∀ a ∈ es, a.n ≠ s) : find es s = none :=
  List.find?_eq_none.2 fun a ha => by simpa using h a ha
theorem find_at {es : List At} {s : List UInt8} (k : Nat) (hk : k < es.length) (h : ∀ j (hj : j < k), (es[j]'(by omega)).n ≠ s) (hs : es[k].n = s) : find es s = some es[k] := by
  unfold find
  rw [List.find?_eq_some_iff_getElem]
  refine ⟨by simpa using hs, k, hk, rfl, fun j hj => by simpa using h j hj⟩
theorem find_once {es : List At} (h : Once es) {a : At} (ha : a ∈ es) : find es a.n = some a := by
  unfold find
  induction es with
  | nil => simp at ha
  | cons b r ih =>
    unfold Once at h ih
    rw [List.map_cons, List.nodup_cons] at h
    rcases List.mem_cons.1 ha with rfl | hr
    · simp
    · have hne : b.n ≠ a.n := fun e => h.1 (by rw [e]; exact List.mem_map_of_mem hr)
      rw [List.find?_cons]
      have : (b.n == a.n) = false := by simpa using hne
      rw [this]
      exact ih h.2 hr
/-- Few, and short. -/
def Few (es : List At) : Prop := es.length ≤ 40 ∧ ∀ a ∈ es, a.n.length ≤ 100 ∧ a.t.length ≤ 300
instance (es : List At) : Decidable (Few es) := inferInstanceAs (Decidable (_ ∧ _))
/-- One attribute laid at its place. -/
theorem insert_sort {es out : List At} {a : At} (h : IsSort es out) (k : Nat) (hk : k ≤ out.length) (h1 : ∀ j (hj : j < k), lt (out[j]'(by omega)) a) (h2 : ∀ (hj : k < out.length), lt a out[k]) :
    IsSort (es ++ [a]) (out.take k ++ [a] ++ out.drop k) := by
  refine ⟨?_, ?_⟩
  · rw [List.append_assoc]
    refine (List.perm_middle (l₁ := out.take k) (l₂ := out.drop k)).trans ?_
    rw [List.take_append_drop]
    exact ((List.Perm.cons a h.1).trans (List.perm_append_comm (l₁ := [a])))
  · have hp := h.2
    rw [← List.take_append_drop k out, List.pairwise_append] at hp
    have hlow : ∀ x ∈ out.take k, lt x a := fun x hx => by
      obtain ⟨j, hj, rfl⟩ := List.getElem_of_mem hx
      rw [List.getElem_take]
      exact h1 j (by simp at hj; omega)
    have hhigh : ∀ y ∈ out.drop k, lt a y := fun y hy => by
      obtain ⟨j, hj, rfl⟩ := List.getElem_of_mem hy
      have hj' : k + j < out.length := by simp at hj; omega
      have h0 := h2 (by omega)
      rw [List.getElem_drop]
      by_cases hz : j = 0
      · subst hz; exact h0
      · exact lt_trans h0 (List.pairwise_iff_getElem.1 h.2 k (k + j) (by omega) hj' (by omega))
    rw [List.pairwise_append, List.pairwise_append]
    refine ⟨⟨hp.1, List.pairwise_singleton _ _, fun x hx y hy => by simp at hy; subst hy; exact hlow x hx⟩, hp.2.1, fun x hx y hy => ?_⟩
    rcases List.mem_append.1 hx with hx | hx
    · exact hp.2.2 x hx y hy
    · simp at hx; subst hx; exact hhigh y hy
end Ev
