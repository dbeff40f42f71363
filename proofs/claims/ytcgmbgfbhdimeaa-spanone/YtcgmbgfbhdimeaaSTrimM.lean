/- What trimming comes to: ends that are moved on over what is not there. Plain mathematics. -/
import Derived.Test.YtcgmbgfbhdimeaaSTell
namespace Spans
open Go.Op (bytesLess)
def RiseN (m : List Val) : Prop := m.Pairwise fun u v => u.i < v.i
def RiseT (m : List Val) : Prop := m.Pairwise fun u v => bytesLess u.t v.t = true
/-- Values that rise, as they are compared. -/
def RiseV (m : List Val) : Prop := m.Pairwise fun a b => Vals.cmp a.k a.i a.t b.k b.i b.t < 0
theorem cmpI_neg_iff (a b : Int) : Vals.cmpI a b < 0 ↔ a < b := by
  unfold Vals.cmpI
  split <;> (try split) <;> omega
theorem riseN_of {K : Int} {m : List Val} (h : RiseV m) (hl : ∀ v ∈ m, v.k = K ∧ v.t = []) : RiseN m := by
  refine List.Pairwise.imp_of_mem (fun {a b} ha hb hab => ?_) h
  obtain ⟨a1, a2⟩ := hl a ha
  obtain ⟨b1, b2⟩ := hl b hb
  rw [a1, a2, b1, b2, cmp_num, cmpI_neg_iff] at hab
  exact hab
theorem riseT_of {m : List Val} (h : RiseV m) (hl : ∀ v ∈ m, v.k = 2 ∧ v.i = 0) : RiseT m := by
  refine List.Pairwise.imp_of_mem (fun {a b} ha hb hab => ?_) h
  obtain ⟨a1, a2⟩ := hl a ha
  obtain ⟨b1, b2⟩ := hl b hb
  rw [a1, a2, b1, b2, cmp_txt, cmpT_neg_iff] at hab
  exact hab
structure TN (K lo hi : Int) (l : List Val) (lo' hi' : Int) (m : List Val) : Prop where
  mem : ∀ v, v ∈ m ↔ v ∈ l ∧ lo' ≤ v.i ∧ v.i ≤ hi'
  rise : RiseN m
  le : lo ≤ lo'
  ge : hi' ≤ hi
  ord : lo' ≤ hi'
  ga : ∀ x, lo ≤ x → x < lo' → (⟨K, x, []⟩ : Val) ∈ l
  gb : ∀ x, hi' < x → x ≤ hi → (⟨K, x, []⟩ : Val) ∈ l
  hl : ∀ v ∈ l, v.k = K ∧ v.t = []
section
variable {K lo hi lo' hi' : Int} {l m : List Val}
theorem TN.val (h : TN K lo hi l lo' hi' m) {v : Val} (hv : v ∈ l) : v = ⟨K, v.i, []⟩ := Val.ext_ (h.hl v hv).1 rfl (h.hl v hv).2
theorem TN.start (hl : ∀ v ∈ l, v.k = K ∧ v.t = []) (hr : RiseV l) (hlh : lo ≤ hi) (q : Val → Bool) (hq : ∀ v, q v = (decide (v.i < lo) || decide (hi < v.i))) : TN K lo hi l lo hi (l.filter fun v => !q v) := by
  refine ⟨fun v => ?_, ?_, Int.le_refl _, Int.le_refl _, hlh, fun x h1 h2 => by omega, fun x h1 h2 => by omega, hl⟩
  · rw [List.mem_filter, hq]
    simp
  · exact (riseN_of hr hl).sublist List.filter_sublist
theorem head_split (h : 0 < m.length) : m = m[0] :: m.drop 1 := by
  cases m with
  | nil => simp at h
  | cons a r => rfl
theorem TN.up (h : TN K lo hi l lo' hi' m) (h0 : 0 < m.length) (e : m[0].i = lo') (hne : lo' ≠ hi') : TN K lo hi l (lo' + 1) hi' (m.drop 1) := by
  have hm := head_split h0
  have hr : RiseN (m[0] :: m.drop 1) := hm ▸ h.rise
  have hr' := List.pairwise_cons.1 hr
  have hx0 := (h.mem m[0]).1 (List.getElem_mem h0)
  refine ⟨fun v => ?_, hr'.2, by have := h.le; omega, h.ge, by have := h.ord; omega, fun x h1 h2 => ?_, h.gb, h.hl⟩
  · constructor
    · intro hv
      have h1 := hr'.1 v hv
      have h2 := (h.mem v).1 (by rw [hm]; exact List.mem_cons_of_mem _ hv)
      exact ⟨h2.1, by omega, h2.2.2⟩
    · rintro ⟨h1, h2, h3⟩
      have h4 := (h.mem v).2 ⟨h1, by omega, h3⟩
      rw [hm] at h4
      rcases List.mem_cons.1 h4 with h5 | h5
      · rw [h5] at h2; omega
      · exact h5
  · by_cases hx : x = lo'
    · subst hx
      have := h.val hx0.1
      rw [e] at this
      rw [← this]; exact hx0.1
    · exact h.ga x h1 (by omega)
theorem TN.full (h : TN K lo hi l lo' hi' m) (hk : K = 1 ∨ K = 3) (h0 : 0 < m.length) (e : m[0].i = lo') (he : lo' = hi') (hh : hi' = hi) : IsInts K lo hi l none_ := by
  have hx0 := (h.mem m[0]).1 (List.getElem_mem h0)
  refine ints_none hk fun x h1 h2 => ?_
  by_cases hv : x < lo'
  · exact h.ga x h1 hv
  · have hx : x = lo' := by omega
    have := h.val hx0.1
    rw [e, ← hx] at this
    rw [← this]; exact hx0.1
theorem TN.low_out (h : TN K lo hi l lo' hi' m) (hx : ∀ h0 : 0 < m.length, m[0].i ≠ lo') : (⟨K, lo', []⟩ : Val) ∉ l := by
  intro hv
  have hv' := (h.mem _).2 ⟨hv, Int.le_refl _, h.ord⟩
  have h0 : 0 < m.length := List.length_pos_of_mem hv'
  have hm := head_split h0
  have hr' := List.pairwise_cons.1 (show RiseN (m[0] :: m.drop 1) from hm ▸ h.rise)
  rw [hm] at hv'
  have hx0 := (h.mem m[0]).1 (List.getElem_mem h0)
  rcases List.mem_cons.1 hv' with h5 | h5
  · exact hx h0 (by rw [← h5])
  · have := hr'.1 _ h5
    simp only at this
    omega
theorem last_split (h : 0 < m.length) : m = m.take (m.length - 1) ++ [m[m.length - 1]] := by
  have := List.take_succ_eq_append_getElem (l := m) (i := m.length - 1) (by omega)
  rw [show m.length - 1 + 1 = m.length by omega, List.take_of_length_le (Nat.le_refl _)] at this
  exact this
theorem TN.down (h : TN K lo hi l lo' hi' m) (hlo : (⟨K, lo', []⟩ : Val) ∉ l) (h0 : 0 < m.length) (e : m[m.length - 1].i = hi') : TN K lo hi l lo' (hi' - 1) (m.take (m.length - 1)) := by
  have hm := last_split h0
  have hr : RiseN (m.take (m.length - 1) ++ [m[m.length - 1]]) := hm ▸ h.rise
  have hr' := List.pairwise_append.1 hr
  have hx0 := (h.mem m[m.length - 1]).1 (List.getElem_mem _)
  have hv0 := h.val hx0.1
  have hne : lo' ≠ hi' := fun hh => hlo (by rw [hh, ← e, ← hv0]; exact hx0.1)
  refine ⟨fun v => ?_, hr'.1, h.le, by have := h.ge; omega, by have := h.ord; omega, h.ga, fun x h1 h2 => ?_, h.hl⟩
  · constructor
    · intro hv
      have h1 := hr'.2.2 v hv _ (List.mem_singleton_self _)
      have h2 := (h.mem v).1 (by rw [hm]; exact List.mem_append_left _ hv)
      exact ⟨h2.1, h2.2.1, by omega⟩
    · rintro ⟨h1, h2, h3⟩
      have h4 := (h.mem v).2 ⟨h1, h2, by omega⟩
      rw [hm] at h4
      rcases List.mem_append.1 h4 with h5 | h5
      · exact h5
      · rw [List.mem_singleton.1 h5] at h3; omega
  · by_cases hx : x = hi'
    · rw [hx, ← e, ← hv0]; exact hx0.1
    · exact h.gb x (by omega) h2
theorem TN.high_out (h : TN K lo hi l lo' hi' m) (hx : ∀ h0 : 0 < m.length, m[m.length - 1].i ≠ hi') : (⟨K, hi', []⟩ : Val) ∉ l := by
  intro hv
  have hv' := (h.mem _).2 ⟨hv, h.ord, Int.le_refl _⟩
  have h0 : 0 < m.length := List.length_pos_of_mem hv'
  have hm := last_split h0
  have hr' := List.pairwise_append.1 (show RiseN (m.take (m.length - 1) ++ [m[m.length - 1]]) from hm ▸ h.rise)
  rw [hm] at hv'
  have hx0 := (h.mem m[m.length - 1]).1 (List.getElem_mem _)
  rcases List.mem_append.1 hv' with h5 | h5
  · have := hr'.2.2 _ h5 _ (List.mem_singleton_self _)
    simp only at this
    omega
  · exact hx h0 (by rw [← List.mem_singleton.1 h5])
theorem TN.done (h : TN K lo hi l lo' hi' m) (hk : K = 1 ∨ K = 3) (h1 : lowest K ≤ lo) (h2 : hi ≤ highest K) (hlo : (⟨K, lo', []⟩ : Val) ∉ l) (hhi : (⟨K, hi', []⟩ : Val) ∉ l) : IsInts K lo hi l ⟨K, lo', hi', [], [], false, m⟩ := by
  refine ints_mk hk (by have := h.le; omega) (by have := h.ge; omega) h.ord h.le h.ge h.ga h.gb hlo hhi (fun v => ?_) h.rise
  rw [h.mem]
  constructor
  · rintro ⟨g1, g2, g3⟩
    have hv := h.val g1
    refine ⟨g1, (h.hl v g1).1, (h.hl v g1).2, ?_, ?_⟩
    · have : v.i ≠ lo' := fun e => hlo (by rw [← e, ← hv]; exact g1)
      omega
    · have : v.i ≠ hi' := fun e => hhi (by rw [← e, ← hv]; exact g1)
      omega
  · rintro ⟨g1, _, _, g2, g3⟩
    exact ⟨g1, by omega, by omega⟩
end
structure TT (frm to_ : List UInt8) (opn : Bool) (l : List Val) (a b : Nat) (e : List UInt8) (m : List Val) : Prop where
  mem : ∀ v, v ∈ m ↔ v ∈ l ∧ bytesLess v.t (zs frm a) = false ∧ (opn = true ∨ bytesLess v.t e = true)
  rise : RiseT m
  ga : ∀ j, j < a → (⟨2, 0, zs frm j⟩ : Val) ∈ l
  gb : opn = false → to_ = zs e b ∧ ∀ j, j < b → (⟨2, 0, zs e j⟩ : Val) ∈ l
  hl : ∀ v ∈ l, v.k = 2 ∧ v.i = 0 ∧ v.t.length ≤ 32
section
variable {frm to_ e : List UInt8} {opn : Bool} {l m : List Val} {a b : Nat}
theorem TT.val (h : TT frm to_ opn l a b e m) {v : Val} (hv : v ∈ l) : v = ⟨2, 0, v.t⟩ := Val.ext_ (h.hl v hv).1 (h.hl v hv).2.1 rfl
theorem TT.start (hl : ∀ v ∈ l, v.k = 2 ∧ v.i = 0 ∧ v.t.length ≤ 32) (hr : RiseV l) (q : Val → Bool) (hq : ∀ v, q v = (bytesLess v.t frm || (!opn && !bytesLess v.t to_))) : TT frm to_ opn l 0 0 to_ (l.filter fun v => !q v) := by
  refine ⟨fun v => ?_, (riseT_of hr fun v hv => ⟨(hl v hv).1, (hl v hv).2.1⟩).sublist List.filter_sublist, fun j hj => by omega, fun _ => ⟨(zs_zero _).symm, fun j hj => by omega⟩, hl⟩
  rw [List.mem_filter, hq, zs_zero]
  cases opn <;> cases bytesLess v.t frm <;> cases bytesLess v.t to_ <;> simp
theorem TT.up (h : TT frm to_ opn l a b e m) (h0 : 0 < m.length) (hx : m[0].t = zs frm a) : TT frm to_ opn l (a + 1) b e (m.drop 1) := by
  have hm := head_split h0
  have hr' := List.pairwise_cons.1 (show RiseT (m[0] :: m.drop 1) from hm ▸ h.rise)
  have hx0 := (h.mem m[0]).1 (List.getElem_mem h0)
  have hv0 := h.val hx0.1
  refine ⟨fun v => ?_, hr'.2, fun j hj => ?_, h.gb, h.hl⟩
  · rw [zs_succ]
    constructor
    · intro hv
      have h1 := hr'.1 v hv
      have h2 := (h.mem v).1 (by rw [hm]; exact List.mem_cons_of_mem _ hv)
      rw [hx] at h1
      exact ⟨h2.1, next_le _ _ h1, h2.2.2⟩
    · rintro ⟨h1, h2, h3⟩
      have h5 : bytesLess (zs frm a) v.t = true := by
        have h6 := lt_next v.t (zs frm a)
        cases h7 : bytesLess (zs frm a) v.t with
        | true => rfl
        | false => rw [h6.2 h7] at h2; simp at h2
      have h4 := (h.mem v).2 ⟨h1, le_of_lt h5, h3⟩
      rw [hm] at h4
      rcases List.mem_cons.1 h4 with h6 | h6
      · rw [h6, hx, Vals.less_irr] at h5; simp at h5
      · exact h6
  · by_cases hj' : j = a
    · rw [hj', ← hx, ← hv0]; exact hx0.1
    · exact h.ga j (by omega)
theorem TT.low_out (h : TT frm to_ opn l a b e m) (hin : opn = true ∨ bytesLess (zs frm a) e = true) (hx : ∀ h0 : 0 < m.length, m[0].t ≠ zs frm a) : (⟨2, 0, zs frm a⟩ : Val) ∉ l := by
  intro hv
  have hv' := (h.mem _).2 ⟨hv, Vals.less_irr _, hin⟩
  have h0 : 0 < m.length := List.length_pos_of_mem hv'
  have hm := head_split h0
  have hr' := List.pairwise_cons.1 (show RiseT (m[0] :: m.drop 1) from hm ▸ h.rise)
  rw [hm] at hv'
  have hx0 := (h.mem m[0]).1 (List.getElem_mem h0)
  rcases List.mem_cons.1 hv' with h5 | h5
  · exact hx h0 (by rw [← h5])
  · have := hr'.1 _ h5
    simp only at this
    rw [hx0.2.1] at this; simp at this
theorem TT.none_ (h : TT frm to_ false l a b e m) (hout : bytesLess (zs frm a) e = false) : IsTexts frm to_ false l none_ := by
  obtain ⟨h1, h2⟩ := h.gb rfl
  rw [h1]
  exact texts_none h.ga h2 hout
theorem TT.down (h : TT frm to_ false l a b e m) (h0 : 0 < m.length) (hx : m[m.length - 1].t ++ [0] = e) : TT frm to_ false l a (b + 1) m[m.length - 1].t (m.take (m.length - 1)) := by
  have hm := last_split h0
  have hr' := List.pairwise_append.1 (show RiseT (m.take (m.length - 1) ++ [m[m.length - 1]]) from hm ▸ h.rise)
  have hx0 := (h.mem m[m.length - 1]).1 (List.getElem_mem _)
  have hv0 := h.val hx0.1
  refine ⟨fun v => ?_, hr'.1, h.ga, fun ho => ?_, h.hl⟩
  · constructor
    · intro hv
      have h1 := hr'.2.2 v hv _ (List.mem_singleton_self _)
      have h2 := (h.mem v).1 (by rw [hm]; exact List.mem_append_left _ hv)
      exact ⟨h2.1, h2.2.1, .inr h1⟩
    · rintro ⟨h1, h2, h3⟩
      have h3' : bytesLess v.t m[m.length - 1].t = true := h3.elim (fun h => by simp at h) id
      have h4 := (h.mem v).2 ⟨h1, h2, .inr (by rw [← hx, lt_next]; exact le_of_lt h3')⟩
      rw [hm] at h4
      rcases List.mem_append.1 h4 with h5 | h5
      · exact h5
      · rw [List.mem_singleton.1 h5, Vals.less_irr] at h3'; simp at h3'
  · obtain ⟨g1, g2⟩ := h.gb rfl
    refine ⟨by rw [g1, ← hx, Nat.add_comm b 1, ← zs_add]; rfl, fun j hj => ?_⟩
    rcases j with _ | j
    · rw [zs_zero, ← hv0]; exact hx0.1
    · have := g2 j (by omega)
      rw [← hx, show m[m.length - 1].t ++ [0] = zs m[m.length - 1].t 1 from rfl, zs_add] at this
      rw [Nat.add_comm j 1]; exact this
theorem TT.lt_down (h : TT frm to_ false l a b e m) (hlo : (⟨2, 0, zs frm a⟩ : Val) ∉ l) (h0 : 0 < m.length) : bytesLess (zs frm a) m[m.length - 1].t = true := by
  have hx0 := (h.mem m[m.length - 1]).1 (List.getElem_mem _)
  rcases less_or (zs frm a) m[m.length - 1].t with g | g | g
  · exact g
  · exact absurd (by rw [g, ← h.val hx0.1]; exact hx0.1) hlo
  · rw [hx0.2.1] at g; simp at g
theorem TT.end_out (h : TT frm to_ false l a b e m) (hlt : bytesLess (zs frm a) e = true) (hx : ∀ h0 : 0 < m.length, m[m.length - 1].t ++ [0] ≠ e) : ∀ u, e = u ++ [0] → (⟨2, 0, u⟩ : Val) ∉ l := by
  intro u hu hv
  have h1 : bytesLess u (zs frm a) = false := by rw [hu, lt_next] at hlt; exact hlt
  have h2 : bytesLess u e = true := by rw [hu]; exact lt_snoc u
  have hv' := (h.mem _).2 ⟨hv, h1, .inr h2⟩
  have h0 : 0 < m.length := List.length_pos_of_mem hv'
  have hm := last_split h0
  have hr' := List.pairwise_append.1 (show RiseT (m.take (m.length - 1) ++ [m[m.length - 1]]) from hm ▸ h.rise)
  have hx0 := (h.mem m[m.length - 1]).1 (List.getElem_mem _)
  rw [hm] at hv'
  rcases List.mem_append.1 hv' with h5 | h5
  · have h6 := hr'.2.2 _ h5 _ (List.mem_singleton_self _)
    simp only at h6
    have h7 : bytesLess m[m.length - 1].t e = true := hx0.2.2.elim (fun h => by simp at h) id
    rw [hu, lt_next, h6] at h7; simp at h7
  · exact hx h0 (by rw [← List.mem_singleton.1 h5, hu])
theorem TT.done (h : TT frm to_ opn l a b e m) (hf : Short frm) (ho : opn = true → e = []) (hs : opn = false → Short to_ ∧ bytesLess (zs frm a) e = true ∧ ∀ u, e = u ++ [0] → (⟨2, 0, u⟩ : Val) ∉ l) (hlo : (⟨2, 0, zs frm a⟩ : Val) ∉ l) : IsTexts frm to_ opn l ⟨2, 0, 0, zs frm a, e, opn, m⟩ :=
  texts_mk h.ga hlo h.gb (moved_short (fun v hv => (h.hl v hv).2.2) hf h.ga) ho (fun hh => ⟨by
    obtain ⟨g1, g2⟩ := h.gb hh
    exact moved_short' (fun v hv => (h.hl v hv).2.2) (g1 ▸ (hs hh).1) g2, (hs hh).2⟩) h.hl h.mem h.rise
end
end Spans
