/- Package span as plain mathematics: the predicates that tell a span. No program. -/
import Derived.Test.YtcgmbgfbhdimeaaSPreds
namespace Spans
open Go.Op (bytesLess)
/-- A text without the byte 0 at its end, if it ends with one. -/
def zeroEnd (s : List UInt8) : Option (List UInt8) := if s.getLast? = some 0 then some s.dropLast else none
theorem zeroEnd_iff (s u : List UInt8) : zeroEnd s = some u ↔ s = u ++ [0] := by
  unfold zeroEnd
  constructor
  · intro h
    split at h
    · rename_i hl
      injection h with h
      subst h
      obtain ⟨ys, rfl⟩ := List.getLast?_eq_some_iff.1 hl
      simp
    · simp at h
  · rintro rfl
    simp
theorem zeroEnd_none (s : List UInt8) (h : zeroEnd s = none) : ∀ u, s ≠ u ++ [0] := fun u e => by
  rw [(zeroEnd_iff s u).2 e] at h; simp at h
def frmP (n : List UInt8) (a : Sp) : List Pr :=
  match zeroEnd a.frm with
  | some u => [⟨n, 5, 2, 0, u⟩]
  | none => if a.frm = [] then [] else [⟨n, 6, 2, 0, a.frm⟩]
def toP (n : List UInt8) (a : Sp) : List Pr :=
  if a.opn = true then [] else
  match zeroEnd a.to_ with
  | some u => [⟨n, 4, 2, 0, u⟩]
  | none => [⟨n, 3, 2, 0, a.to_⟩]
def loP (n : List UInt8) (a : Sp) : List Pr := if a.kind = 1 ∧ -9223372036854775808 < a.lo then [⟨n, 6, 1, a.lo, []⟩] else []
def hiP (n : List UInt8) (a : Sp) : List Pr := if a.kind = 1 ∧ a.hi < 9223372036854775807 then [⟨n, 4, 1, a.hi, []⟩] else []
def noP (n : List UInt8) (a : Sp) : List Pr := a.no.map fun v => ⟨n, 2, v.k, v.i, v.t⟩
def orP (l : List Pr) (d : Pr) : List Pr := if l = [] then [d] else l
/-- The predicates of a span. -/
def predsOf (n : List UInt8) (a : Sp) : List Pr :=
  if a.kind = 0 then [] else if a.kind = 4 then [⟨n, 8, 0, 0, []⟩]
  else if a.kind = 2 then (if a.opn = false ∧ a.to_ = a.frm ++ [0] then [⟨n, 1, 2, 0, a.frm⟩] else orP (frmP n a ++ toP n a ++ noP n a) ⟨n, 6, 2, 0, []⟩)
  else if a.lo = a.hi then [⟨n, 1, a.kind, a.lo, []⟩] else orP (loP n a ++ hiP n a ++ noP n a) ⟨n, 6, a.kind, lowest a.kind, []⟩
theorem mk_right (n : List UInt8) (o k i : Int) (t : List UInt8) (h1 : 1 ≤ n.length) (h2 : n.length ≤ 16) (ho : 1 ≤ o) (ho2 : o ≤ 6) (hv : rightV ⟨k, i, t⟩ = true) (hl : t.length ≤ 32) : rightP ⟨n, o, k, i, t⟩ = true := by
  rw [rightV_iff] at hv
  rw [rightP_iff]
  refine ⟨?_, hv.2⟩
  show Preds.right n o k i t = true
  unfold Preds.right
  rw [Preds.asks_of (by omega) ho (by omega) hv.1 hl (fun e => by omega)]
  simp [h1, h2]
theorem mem_orP {l : List Pr} {d p : Pr} (h : p ∈ orP l d) : p = d ∨ p ∈ l := by
  unfold orP at h
  split at h
  · exact .inl (by simpa using h)
  · exact .inr h
theorem orP_ne (l : List Pr) (d : Pr) : orP l d ≠ [] := by
  unfold orP
  split
  · simp
  · assumption
/-- What a span's predicates are: right, and of that name. -/
def Fine (n : List UInt8) (p : Pr) : Prop := rightP p = true ∧ p.n = n
theorem no_right {a : Sp} (h : Canon a) : ∀ v ∈ a.no, rightV v = true ∧ v.t.length ≤ 32 := by
  intro v hv
  rcases h with rfl | rfl | h | h
  · simp [none_] at hv
  · simp [any_] at hv
  · obtain ⟨n1, n2, n3, n4⟩ := h.no v hv
    have := h.low
    have := h.high
    have e : v = ⟨a.kind, v.i, []⟩ := Val.ext_ n1 rfl n2
    refine ⟨?_, by rw [n2]; simp⟩
    rw [e]
    exact right_num h.kind (by show _ ≤ v.i; omega) (by show v.i ≤ _; omega)
  · obtain ⟨n1, n2, n3, _⟩ := h.no v hv
    have e : v = ⟨2, 0, v.t⟩ := Val.ext_ n1 n2 rfl
    refine ⟨?_, n3⟩
    rw [e]
    exact right_text _ (by omega)
theorem noP_fine {n : List UInt8} {a : Sp} (h : Canon a) (h1 : 1 ≤ n.length) (h2 : n.length ≤ 16) : ∀ p ∈ noP n a, Fine n p := by
  intro p hp
  obtain ⟨v, hv, rfl⟩ := List.mem_map.1 hp
  obtain ⟨r1, r2⟩ := no_right h v hv
  exact ⟨mk_right n 2 v.k v.i v.t h1 h2 (by decide) (by decide) r1 r2, rfl⟩
theorem frmP_fine {n : List UInt8} {a : Sp} (h : CanonT a) (h1 : 1 ≤ n.length) (h2 : n.length ≤ 16) : ∀ p ∈ frmP n a, Fine n p := by
  intro p hp
  unfold frmP at hp
  have hl := h.flen.len
  cases hq : zeroEnd a.frm with
  | some u =>
    rw [hq] at hp
    simp at hp
    subst hp
    have e := (zeroEnd_iff _ _).1 hq
    have : u.length ≤ 32 := by rw [e] at hl; simp at hl; omega
    exact ⟨mk_right n 5 2 0 u h1 h2 (by decide) (by decide) (right_text _ (by omega)) this, rfl⟩
  | none =>
    rw [hq] at hp
    by_cases he : a.frm = []
    · simp [he] at hp
    · simp [he] at hp
      subst hp
      have : a.frm.length ≤ 32 := by
        rcases h.flen with hf | ⟨u, hu, _⟩
        · exact hf
        · exact absurd hu (zeroEnd_none _ hq u)
      exact ⟨mk_right n 6 2 0 a.frm h1 h2 (by decide) (by decide) (right_text _ (by omega)) this, rfl⟩
theorem toP_fine {n : List UInt8} {a : Sp} (h : CanonT a) (h1 : 1 ≤ n.length) (h2 : n.length ≤ 16) : ∀ p ∈ toP n a, Fine n p := by
  intro p hp
  unfold toP at hp
  cases ho : a.opn with
  | true => rw [ho] at hp; simp at hp
  | false =>
    rw [ho] at hp
    have hsh := (h.shut ho).1
    have hl := hsh.len
    simp only [Bool.false_eq_true, if_false] at hp
    cases hq : zeroEnd a.to_ with
    | some u =>
      rw [hq] at hp
      simp at hp
      subst hp
      have e := (zeroEnd_iff _ _).1 hq
      have : u.length ≤ 32 := by rw [e] at hl; simp at hl; omega
      exact ⟨mk_right n 4 2 0 u h1 h2 (by decide) (by decide) (right_text _ (by omega)) this, rfl⟩
    | none =>
      rw [hq] at hp
      simp at hp
      subst hp
      have : a.to_.length ≤ 32 := by
        rcases hsh with hf | ⟨u, hu, _⟩
        · exact hf
        · exact absurd hu (zeroEnd_none _ hq u)
      exact ⟨mk_right n 3 2 0 a.to_ h1 h2 (by decide) (by decide) (right_text _ (by omega)) this, rfl⟩
theorem preds_fine {n : List UInt8} {a : Sp} (h : Canon a) (h1 : 1 ≤ n.length) (h2 : n.length ≤ 16) : ∀ p ∈ predsOf n a, Fine n p := by
  intro p hp
  have hno := noP_fine h h1 h2
  unfold predsOf at hp
  rcases h with rfl | rfl | h | h
  · simp [none_] at hp
  · simp [any_] at hp
    subst hp
    refine ⟨?_, rfl⟩
    rw [rightP_iff]
    refine ⟨?_, by show -9223372036854775808 ≤ (0 : Int); decide, by show (0 : Int) ≤ 9223372036854775807; decide⟩
    show Preds.right n 8 0 0 [] = true
    unfold Preds.right Preds.asks
    simp [h1, h2]
  · obtain ⟨k1, k2, k3⟩ := N_not4 h
    have g1 := h.low
    have g2 := h.ord
    have g3 := h.high
    rw [if_neg k3, if_neg k1, if_neg k2] at hp
    split at hp
    · simp at hp
      subst hp
      exact ⟨mk_right n 1 a.kind a.lo [] h1 h2 (by decide) (by decide) (right_num h.kind g1 (by omega)) (by simp), rfl⟩
    · rcases mem_orP hp with rfl | hp
      · exact ⟨mk_right n 6 a.kind (lowest a.kind) [] h1 h2 (by decide) (by decide) (right_num h.kind (Int.le_refl _) (by omega)) (by simp), rfl⟩
      · rcases List.mem_append.1 hp with hp | hp
        · rcases List.mem_append.1 hp with hp | hp
          · unfold loP at hp
            split at hp
            · rename_i hc
              simp at hp
              subst hp
              rw [hc.1] at g1 g3
              exact ⟨mk_right n 6 1 a.lo [] h1 h2 (by decide) (by decide) (right_num (.inl rfl) g1 (by omega)) (by simp), rfl⟩
            · simp at hp
          · unfold hiP at hp
            split at hp
            · rename_i hc
              simp at hp
              subst hp
              rw [hc.1] at g1 g3
              exact ⟨mk_right n 4 1 a.hi [] h1 h2 (by decide) (by decide) (right_num (.inl rfl) (by omega) g3) (by simp), rfl⟩
            · simp at hp
        · exact hno p hp
  · have hk := h.kind
    rw [if_neg (T_not4 h).2, if_neg (T_not4 h).1, if_pos hk] at hp
    split at hp
    · rename_i hc
      simp at hp
      subst hp
      have hl := (h.shut hc.1).1.len
      rw [hc.2] at hl
      have hl' : a.frm.length ≤ 32 := by simp at hl; omega
      exact ⟨mk_right n 1 2 0 a.frm h1 h2 (by decide) (by decide) (right_text _ (by omega)) hl', rfl⟩
    · rcases mem_orP hp with rfl | hp
      · exact ⟨mk_right n 6 2 0 [] h1 h2 (by decide) (by decide) (right_text _ (by simp)) (by simp), rfl⟩
      · rcases List.mem_append.1 hp with hp | hp
        · rcases List.mem_append.1 hp with hp | hp
          · exact frmP_fine h h1 h2 p hp
          · exact toP_fine h h1 h2 p hp
        · exact hno p hp
/-- All of some predicates of one kind hold: of a value of that kind, and each of it. -/
theorem all_kind {l : List Pr} {k : Int} {C : Pr → Prop} {v : Val} (hne : l ≠ []) (h : ∀ p ∈ l, holdsP p v = true ↔ v.k = k ∧ C p) : (∀ p ∈ l, holdsP p v = true) ↔ v.k = k ∧ ∀ p ∈ l, C p := by
  constructor
  · intro g
    obtain ⟨p, hp⟩ := List.exists_mem_of_ne_nil l hne
    exact ⟨((h p hp).1 (g p hp)).1, fun q hq => ((h q hq).1 (g q hq)).2⟩
  · rintro ⟨g1, g2⟩ p hp
    exact (h p hp).2 ⟨g1, g2 p hp⟩
def CN (v : Val) (p : Pr) : Prop := ofLo p ≤ v.i ∧ v.i ≤ ofHi p ∧ v ∉ ofNo p
def CT (v : Val) (p : Pr) : Prop := bytesLess v.t (ofFrm p) = false ∧ (ofOpn p = true ∨ bytesLess v.t (ofTo p) = true) ∧ v ∉ ofNo p
theorem orP_all {l : List Pr} {d : Pr} {C : Pr → Prop} (h : l = [] → C d) : (∀ p ∈ orP l d, C p) ↔ ∀ p ∈ l, C p := by
  unfold orP
  split
  · rename_i he
    rw [he]
    simp [h he]
  · rfl
theorem app_all {l m : List Pr} {C : Pr → Prop} : (∀ p ∈ l ++ m, C p) ↔ (∀ p ∈ l, C p) ∧ ∀ p ∈ m, C p := by
  simp [or_imp, forall_and]
theorem less_nil (t : List UInt8) : bytesLess t [] = false := by cases t <;> rfl
theorem frmP_all (n : List UInt8) (a : Sp) (v : Val) : (∀ p ∈ frmP n a, CT v p) ↔ bytesLess v.t a.frm = false := by
  unfold frmP
  cases hq : zeroEnd a.frm with
  | some u =>
    have e := (zeroEnd_iff _ _).1 hq
    simp [CT, ofFrm, ofOpn, ofNo, e]
  | none =>
    by_cases he : a.frm = []
    · simp [he, less_nil]
    · simp [he, CT, ofFrm, ofOpn, ofNo]
theorem toP_all (n : List UInt8) (a : Sp) (v : Val) : (∀ p ∈ toP n a, CT v p) ↔ a.opn = true ∨ bytesLess v.t a.to_ = true := by
  unfold toP
  cases ho : a.opn with
  | true => simp
  | false =>
    cases hq : zeroEnd a.to_ with
    | some u =>
      have e := (zeroEnd_iff _ _).1 hq
      simp [CT, ofFrm, ofTo, ofOpn, ofNo, e, less_nil]
    | none => simp [CT, ofFrm, ofTo, ofOpn, ofNo, less_nil]
theorem noP_all_T (n : List UInt8) (a : Sp) (v : Val) : (∀ p ∈ noP n a, CT v p) ↔ v ∉ a.no := by
  unfold noP
  simp only [List.mem_map, forall_exists_index, and_imp, forall_apply_eq_imp_iff₂]
  simp [CT, ofFrm, ofOpn, ofNo, sideV, less_nil]
  exact ⟨fun h hv => h v hv rfl, fun h w hw e => h (by rw [e]; exact hw)⟩
theorem noP_all_N {n : List UInt8} {a : Sp} {v : Val} (hb : lowest a.kind ≤ v.i ∧ v.i ≤ highest a.kind) (hk : ∀ w ∈ a.no, w.k = a.kind) : (∀ p ∈ noP n a, CN v p) ↔ v ∉ a.no := by
  unfold noP
  simp only [List.mem_map, forall_exists_index, and_imp, forall_apply_eq_imp_iff₂]
  constructor
  · intro h hv
    have := (h v hv).2.2
    simp [ofNo, sideV] at this
  · intro h w hw
    refine ⟨?_, ?_, ?_⟩
    · simp [ofLo, hk w hw]; exact hb.1
    · simp [ofHi, hk w hw]; exact hb.2
    · simp [ofNo, sideV]
      intro e
      exact h (by rw [e]; exact hw)
theorem loP_all (n : List UInt8) (a : Sp) (v : Val) (h : a.kind = 1) (hb : lowest a.kind ≤ v.i ∧ v.i ≤ highest a.kind) : (∀ p ∈ loP n a, CN v p) ↔ (-9223372036854775808 < a.lo → a.lo ≤ v.i) := by
  unfold loP
  rw [h] at hb ⊢
  simp [lowest, highest] at hb
  split
  · rename_i hc
    simp [CN, ofLo, ofHi, ofNo, highest, hc.2, hb.2]
  · rename_i hc
    have : ¬ -9223372036854775808 < a.lo := fun k => hc ⟨rfl, k⟩
    simp [this]
theorem hiP_all (n : List UInt8) (a : Sp) (v : Val) (h : a.kind = 1) (hb : lowest a.kind ≤ v.i ∧ v.i ≤ highest a.kind) : (∀ p ∈ hiP n a, CN v p) ↔ (a.hi < 9223372036854775807 → v.i ≤ a.hi) := by
  unfold hiP
  rw [h] at hb ⊢
  simp [lowest, highest] at hb
  split
  · rename_i hc
    simp [CN, ofLo, ofHi, ofNo, lowest, hc.2, hb.1]
  · rename_i hc
    have : ¬ a.hi < 9223372036854775807 := fun k => hc ⟨rfl, k⟩
    simp [this]
theorem preds_kind {n : List UInt8} {a : Sp} (h : Canon a) (h4 : a.kind ≠ 4) : ∀ p ∈ predsOf n a, p.k = a.kind := by
  intro p hp
  unfold predsOf at hp
  have hno : ∀ p ∈ noP n a, p.k = a.kind := by
    intro p hp
    obtain ⟨v, hv, rfl⟩ := List.mem_map.1 hp
    rcases h with rfl | rfl | h | h
    · simp [none_] at hv
    · simp [any_] at hv
    · exact (h.no v hv).1
    · exact (h.no v hv).1.trans h.kind.symm
  split at hp
  · simp at hp
  · split at hp
    · rename_i h2
      rw [h2] at hno ⊢
      split at hp
      · simp at hp; subst hp; rfl
      · rcases mem_orP hp with rfl | hp
        · rfl
        · rcases List.mem_append.1 hp with hp | hp
          · rcases List.mem_append.1 hp with hp | hp
            · unfold frmP at hp
              split at hp
              · simp at hp; subst hp; rfl
              · split at hp
                · simp at hp
                · simp at hp; subst hp; rfl
            · unfold toP at hp
              split at hp
              · simp at hp
              · split at hp
                · simp at hp; subst hp; rfl
                · simp at hp; subst hp; rfl
          · exact hno p hp
    · split at hp
      · simp at hp; subst hp; rfl
      · rcases mem_orP hp with rfl | hp
        · rfl
        · rcases List.mem_append.1 hp with hp | hp
          · rcases List.mem_append.1 hp with hp | hp
            · unfold loP at hp
              split at hp
              · rename_i hc; simp at hp; subst hp; exact hc.1.symm
              · simp at hp
            · unfold hiP at hp
              split at hp
              · rename_i hc; simp at hp; subst hp; exact hc.1.symm
              · simp at hp
          · exact hno p hp
theorem preds_ne {n : List UInt8} {a : Sp} (h0 : a.kind ≠ 0) : predsOf n a ≠ [] := by
  unfold predsOf
  rw [if_neg h0]
  split
  · simp
  · split
    · split
      · simp
      · exact orP_ne _ _
    · split
      · simp
      · exact orP_ne _ _
theorem kind_none {a : Sp} (h : Canon a) (h0 : a.kind = 0) : a = none_ := by
  rcases h with rfl | rfl | h | h
  · rfl
  · exact absurd h0 (by decide)
  · exact absurd h0 (N_not4 h).2.2
  · exact absurd h0 (T_not4 h).2
/-- A span's predicates tell it again. -/
theorem preds_all {n : List UInt8} {a : Sp} (h : Canon a) (h0 : a.kind ≠ 0) (h1 : 1 ≤ n.length) (h2 : n.length ≤ 16) : IsAll (predsOf n a) a := by
  refine ⟨h, fun v hr => ?_⟩
  have hfine := preds_fine (n := n) h h1 h2
  have hkind := preds_kind (n := n) h
  have hne := preds_ne (n := n) h0
  rcases h with rfl | rfl | h | h
  · exact absurd rfl h0
  · rw [has_any]
    simp only [predsOf, any_]
    simp only [show ¬ ((4 : Int) = 0) by decide, if_false, if_true, List.mem_singleton, forall_eq]
    have hp : rightP ⟨n, 8, 0, 0, []⟩ = true := (hfine ⟨n, 8, 0, 0, []⟩ (by simp [predsOf, any_])).1
    rw [holds_E hp rfl hr, hr]
  · obtain ⟨k1, k2, k3⟩ := N_not4 h
    rw [all_kind (k := a.kind) (C := CN v) hne (fun p hp => by
      have hk := hkind k1 p hp
      rw [holds_N (hfine p hp).1 (by rw [hk]; exact h.kind) hr, hk]; rfl), N_iff h]
    have g1 := h.low
    have g2 := h.ord
    have g3 := h.high
    constructor
    · rintro ⟨_, c1, c2, c3, c4⟩
      refine ⟨c1, ?_⟩
      have hb := num_bd hr (by rw [c1]; exact h.kind)
      rw [c1] at hb
      unfold predsOf
      rw [if_neg k3, if_neg k1, if_neg k2]
      split
      · rename_i e
        simp [CN, ofLo, ofHi, ofNo]
        omega
      · rw [orP_all (fun _ => by simp [CN, ofLo, ofHi, ofNo]; exact hb), app_all, app_all]
        refine ⟨⟨?_, ?_⟩, (noP_all_N hb (fun w hw => (h.no w hw).1)).2 c2⟩
        · rcases h.kind with hk | hk
          · exact (loP_all n a v hk hb).2 fun _ => c3
          · unfold loP; rw [hk]; simp
        · rcases h.kind with hk | hk
          · exact (hiP_all n a v hk hb).2 fun _ => c4
          · unfold hiP; rw [hk]; simp
    · rintro ⟨c1, c⟩
      have hb := num_bd hr (by rw [c1]; exact h.kind)
      rw [c1] at hb
      unfold predsOf at c
      rw [if_neg k3, if_neg k1, if_neg k2] at c
      split at c
      · rename_i e
        simp [CN, ofLo, ofHi, ofNo] at c
        exact ⟨hr, c1, fun hv => by have := h.no v hv; omega, by omega, by omega⟩
      · rename_i e
        rw [orP_all (fun _ => by simp [CN, ofLo, ofHi, ofNo]; exact hb), app_all, app_all] at c
        obtain ⟨⟨d1, d2⟩, d3⟩ := c
        refine ⟨hr, c1, (noP_all_N hb (fun w hw => (h.no w hw).1)).1 d3, ?_, ?_⟩
        · rcases h.kind with hk | hk
          · have := (loP_all n a v hk hb).1 d1
            rw [hk] at hb
            simp [lowest, highest] at hb
            rcases Int.lt_or_le (-9223372036854775808) a.lo with k | k
            · exact this k
            · omega
          · rw [hk] at hb g1 g3
            simp [lowest, highest] at hb g1 g3
            omega
        · rcases h.kind with hk | hk
          · have := (hiP_all n a v hk hb).1 d2
            rw [hk] at hb
            simp [lowest, highest] at hb
            rcases Int.lt_or_le a.hi 9223372036854775807 with k | k
            · exact this k
            · omega
          · rw [hk] at hb g1 g3
            simp [lowest, highest] at hb g1 g3
            omega
  · have hk2 := h.kind
    have k4 := (T_not4 h).1
    rw [all_kind (k := 2) (C := CT v) hne (fun p hp => by
      have hk := (hkind k4 p hp).trans hk2
      rw [holds_T (hfine p hp).1 hk hr]; rfl), T_iff h]
    have hcore : (∀ p ∈ predsOf n a, CT v p) ↔ (v ∉ a.no ∧ bytesLess v.t a.frm = false ∧ (a.opn = true ∨ bytesLess v.t a.to_ = true)) := by
      unfold predsOf
      rw [if_neg h0, if_neg k4, if_pos hk2]
      split
      · rename_i hc
        have hno : v ∉ a.no := fun hv => by
          obtain ⟨_, _, _, n4, n5⟩ := h.no v hv
          have := n5 hc.1
          rw [hc.2, next_le _ _ n4] at this
          simp at this
        simp [CT, ofFrm, ofTo, ofOpn, ofNo, hno, hc.1, hc.2]
      · rw [orP_all (fun _ => by simp [CT, ofFrm, ofOpn, ofNo, less_nil]), app_all, app_all, frmP_all, toP_all, noP_all_T]
        constructor
        · rintro ⟨⟨c1, c2⟩, c3⟩; exact ⟨c3, c1, c2⟩
        · rintro ⟨c3, c1, c2⟩; exact ⟨⟨c1, c2⟩, c3⟩
    rw [hcore]
    constructor
    · rintro ⟨_, c1, c2, c3, c4⟩; exact ⟨c1, c2, c3, c4⟩
    · rintro ⟨c1, c2, c3, c4⟩; exact ⟨hr, c1, c2, c3, c4⟩
end Spans
