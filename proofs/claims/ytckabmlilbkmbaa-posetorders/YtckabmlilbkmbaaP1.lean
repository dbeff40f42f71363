/- Contracts of the program and of the document (PoMath, PoAbv, RowI, PoRow, PoTop, PoOnce), each used further on. -/
import Derived.WalkMore
import Derived.Deep.LoopGhost
import Derived.Test.YtckabmlilbkmbaaD2
import Derived.Test.YtckabmlilbkmbaaT2
import Derived.Test.YtckabmlilbkmbaaF2
namespace Go.Proofs.Ytckabmlilbkmbaa
namespace Po
/-- A path of edges. -/
inductive Star (E : List (Int × Int)) : Int → Int → Prop
  | refl (a : Int) : Star E a a
  | step {a b c : Int} : Star E a b → (b, c) ∈ E → Star E a c
theorem Star.trans {E : List (Int × Int)} {a b c : Int} (h : Star E a b) (k : Star E b c) : Star E a c := by
  induction k with
  | refl => exact h
  | step _ hm ih => exact .step ih hm
theorem Star.mono {E D : List (Int × Int)} (hs : ∀ p ∈ E, p ∈ D) {a b : Int} (h : Star E a b) : Star D a b := by
  induction h with
  | refl => exact .refl _
  | step _ hm ih => exact .step ih (hs _ hm)
/-- How a path begins. -/
theorem Star.head {E : List (Int × Int)} {a b : Int} (h : Star E a b) : a = b ∨ ∃ c, (a, c) ∈ E ∧ Star E c b := by
  induction h with
  | refl => exact .inl rfl
  | @step b c _ hm ih =>
    rcases ih with rfl | ⟨d, h1, h2⟩
    · exact .inr ⟨c, hm, .refl _⟩
    · exact .inr ⟨d, h1, .step h2 hm⟩
/-- How many places below n there are of a kind. -/
def cnt (n : Nat) (p : Nat → Bool) : Nat := ((List.range n).filter p).length
theorem cnt_succ (n : Nat) (p : Nat → Bool) : cnt (n + 1) p = cnt n p + (if p n then 1 else 0) := by
  unfold cnt
  rw [List.range_succ, List.filter_append, List.length_append]
  cases h : p n <;> simp [h]
theorem cnt_le {n : Nat} {p r : Nat → Bool} (h : ∀ i, i < n → p i = true → r i = true) : cnt n p ≤ cnt n r := by
  induction n with
  | zero => simp [cnt]
  | succ n ih =>
    rw [cnt_succ, cnt_succ]
    have h1 := ih fun i hi => h i (by omega)
    cases hp : p n with
    | false => simp; omega
    | true => rw [h n (by omega) hp]; simp; omega
theorem cnt_lt {n : Nat} {p r : Nat → Bool} (h : ∀ i, i < n → p i = true → r i = true) {k : Nat} (hk : k < n) (h0 : p k = false) (h1 : r k = true) : cnt n p < cnt n r := by
  induction n with
  | zero => omega
  | succ n ih =>
    rw [cnt_succ, cnt_succ]
    by_cases e : k = n
    · subst e
      have := cnt_le (n := k) (p := p) (r := r) fun i hi => h i (by omega)
      rw [h0, h1]; simp; omega
    · have h2 := ih (fun i hi => h i (by omega)) (by omega)
      cases hp : p n with
      | false => simp; omega
      | true => rw [h n (by omega) hp]; simp; omega
theorem cnt_one {n : Nat} {p : Nat → Bool} {k : Nat} (hk : k < n) (h1 : p k = true) (h : ∀ i, i < n → p i = true → i = k) : cnt n p = 1 := by
  induction n with
  | zero => omega
  | succ n ih =>
    rw [cnt_succ]
    by_cases e : k = n
    · subst e
      have : cnt k p = 0 := by
        unfold cnt
        rw [List.length_eq_zero_iff, List.filter_eq_nil_iff]
        intro i hi hp
        have := h i (by have := List.mem_range.1 hi; omega) hp
        have := List.mem_range.1 hi
        omega
      rw [this, h1]; simp
    · rw [ih (by omega) fun i hi => h i (by omega)]
      have : p n = false := by
        cases hp : p n with
        | false => rfl
        | true => exact absurd (h n (by omega) hp).symm e
      rw [this]; simp
theorem cnt_none {n : Nat} {p : Nat → Bool} (h : ∀ i, i < n → p i = false) : cnt n p = 0 := by
  unfold cnt
  rw [List.length_eq_zero_iff, List.filter_eq_nil_iff]
  intro i hi hp
  rw [h i (List.mem_range.1 hi)] at hp; cases hp
/-- The places of tops. -/
def isTop (q : Nat → Nat → Bool) (n i : Nat) : Bool := (List.range n).all fun k => !q k i
def isEdge (q : Nat → Nat → Bool) (n i k : Nat) : Bool := q i k && (List.range n).all fun m => !(q i m && q m k)
theorem top_iff {q : Nat → Nat → Bool} {n i : Nat} : isTop q n i = true ↔ ∀ k, k < n → q k i = false := by
  unfold isTop; simp
theorem edge_iff {q : Nat → Nat → Bool} {n i k : Nat} : isEdge q n i k = true ↔ q i k = true ∧ ∀ m, m < n → ¬ (q i m = true ∧ q m k = true) := by
  unfold isEdge
  simp only [Bool.and_eq_true, List.all_eq_true, List.mem_range, Bool.not_eq_true', Bool.and_eq_false_iff]
  refine and_congr_right fun _ => forall_congr' fun m => imp_congr_right fun _ => ?_
  cases q i m <;> cases q m k <;> simp
def topsL (q : Nat → Nat → Bool) (id : Nat → Int) (n : Nat) : List Int := ((List.range n).filter (isTop q n)).map id
def rowL (q : Nat → Nat → Bool) (id : Nat → Int) (n i : Nat) : List (Int × Int) := ((List.range n).filter (isEdge q n i)).map fun k => (id i, id k)
def edgesL (q : Nat → Nat → Bool) (id : Nat → Int) (n : Nat) : List (Int × Int) := (List.range n).flatMap (rowL q id n)
theorem mem_tops {q : Nat → Nat → Bool} {id : Nat → Int} {n : Nat} {x : Int} : x ∈ topsL q id n ↔ ∃ i, i < n ∧ isTop q n i = true ∧ id i = x := by
  unfold topsL; simp only [List.mem_map, List.mem_filter, List.mem_range, and_assoc]
theorem mem_edges {q : Nat → Nat → Bool} {id : Nat → Int} {n : Nat} {x y : Int} : (x, y) ∈ edgesL q id n ↔ ∃ i k, i < n ∧ k < n ∧ isEdge q n i k = true ∧ id i = x ∧ id k = y := by
  unfold edgesL rowL
  simp only [List.mem_flatMap, List.mem_map, List.mem_filter, List.mem_range, Prod.mk.injEq]
  constructor
  · rintro ⟨i, hi, k, ⟨hk, he⟩, h1, h2⟩; exact ⟨i, k, hi, hk, he, h1, h2⟩
  · rintro ⟨i, k, hi, hk, he, h1, h2⟩; exact ⟨i, hi, k, ⟨hk, he⟩, h1, h2⟩
/-- An order of n places, whose Ids are unlike. -/
structure Ord (q : Nat → Nat → Bool) (id : Nat → Int) (n : Nat) : Prop where
  irr : ∀ i, i < n → q i i = false
  tr : ∀ i j k, i < n → j < n → k < n → q i j = true → q j k = true → q i k = true
  inj : ∀ i k, i < n → k < n → id i = id k → i = k
variable {q : Nat → Nat → Bool} {id : Nat → Int} {n : Nat}
/-- Each place is a top, or a top stands above it. -/
theorem Ord.top_above (h : Ord q id n) : ∀ (s i : Nat), i < n → cnt n (fun k => q k i) ≤ s → isTop q n i = true ∨ ∃ k, k < n ∧ isTop q n k = true ∧ q k i = true
  | s, i, hi, hs => by
    by_cases ht : isTop q n i = true
    · exact .inl ht
    · right
      rw [top_iff] at ht
      have : ∃ k, k < n ∧ q k i = true := by
        refine Classical.byContradiction fun hn => ht fun k hk => ?_
        cases hq : q k i with
        | false => rfl
        | true => exact absurd ⟨k, hk, hq⟩ hn
      obtain ⟨k, hk, hq⟩ := this
      have hlt := cnt_lt (n := n) (p := fun j => q j k) (r := fun j => q j i) (fun j hj hp => h.tr j k i hj hk hi hp hq) hk (h.irr k hk) hq
      cases s with
      | zero => omega
      | succ s =>
        rcases h.top_above s k hk (by omega) with h1 | ⟨m, hm, h1, h2⟩
        · exact ⟨k, hk, h1, hq⟩
        · exact ⟨m, hm, h1, h.tr m k i hm hk hi h2 hq⟩
/-- What stands above what is told by the edges. -/
theorem Ord.star_of (h : Ord q id n) : ∀ (s i k : Nat), i < n → k < n → q i k = true → cnt n (fun m => q i m && q m k) ≤ s → Star (edgesL q id n) (id i) (id k)
  | s, i, k, hi, hk, hq, hs => by
    by_cases he : isEdge q n i k = true
    · exact .step (.refl _) (mem_edges.2 ⟨i, k, hi, hk, he, rfl, rfl⟩)
    · rw [edge_iff] at he
      have : ∃ m, m < n ∧ q i m = true ∧ q m k = true := by
        refine Classical.byContradiction fun hn => he ⟨hq, fun m hm hh => hn ⟨m, hm, hh⟩⟩
      obtain ⟨m, hm, h1, h2⟩ := this
      have l1 := cnt_lt (n := n) (p := fun j => q i j && q j m) (r := fun j => q i j && q j k) (fun j hj hp => by
        simp only [Bool.and_eq_true] at hp ⊢
        exact ⟨hp.1, h.tr j m k hj hm hk hp.2 h2⟩) hm (by simp [h.irr m hm]) (by simp [h1, h2])
      have l2 := cnt_lt (n := n) (p := fun j => q m j && q j k) (r := fun j => q i j && q j k) (fun j hj hp => by
        simp only [Bool.and_eq_true] at hp ⊢
        exact ⟨h.tr i m j hi hm hj h1 hp.1, hp.2⟩) hm (by simp [h.irr m hm]) (by simp [h1, h2])
      cases s with
      | zero => omega
      | succ s => exact (h.star_of s i m hi hm h1 (by omega)).trans (h.star_of s m k hm hk h2 (by omega))
theorem Ord.of_star (h : Ord q id n) {a b : Int} (hs : Star (edgesL q id n) a b) : ∀ i, i < n → id i = a → ∃ k, k < n ∧ id k = b ∧ (i = k ∨ q i k = true) := by
  induction hs with
  | refl => intro i hi e; exact ⟨i, hi, e, .inl rfl⟩
  | step _ hm ih =>
    intro i hi e
    obtain ⟨j, hj, ej, hh⟩ := ih i hi e
    obtain ⟨i', k, hi', hk, he, e1, e2⟩ := mem_edges.1 hm
    obtain rfl := h.inj _ _ hi' hj (e1.trans ej.symm)
    have := (edge_iff.1 he).1
    rcases hh with rfl | hh
    · exact ⟨k, hk, e2, .inr this⟩
    · exact ⟨k, hk, e2, .inr (h.tr _ _ _ hi hi' hk hh this)⟩
theorem Ord.star (h : Ord q id n) {i k : Nat} (hi : i < n) (hk : k < n) : Star (edgesL q id n) (id i) (id k) ↔ i = k ∨ q i k = true := by
  constructor
  · intro hs
    obtain ⟨k', hk', e, hh⟩ := h.of_star hs i hi rfl
    obtain rfl := h.inj _ _ hk' hk e
    exact hh
  · rintro (rfl | hq)
    · exact .refl _
    · exact h.star_of _ i k hi hk hq (Nat.le_refl _)
theorem nodup_map {α β : Type} {f : α → β} : ∀ {l : List α}, (∀ x ∈ l, ∀ y ∈ l, f x = f y → x = y) → l.Nodup → (l.map f).Nodup
  | [], _, _ => .nil
  | a :: l, hf, hn => by
    rw [List.map_cons, List.nodup_cons]
    have hn := List.nodup_cons.1 hn
    refine ⟨fun hm => ?_, nodup_map (fun x hx y hy => hf x (List.mem_cons_of_mem _ hx) y (List.mem_cons_of_mem _ hy)) hn.2⟩
    obtain ⟨x, hx, e⟩ := List.mem_map.1 hm
    exact hn.1 (hf _ (List.mem_cons_of_mem _ hx) _ (List.mem_cons_self) e ▸ hx)
theorem Ord.edges_nodup (h : Ord q id n) : (edgesL q id n).Nodup := by
  unfold edgesL
  have : ∀ m, m ≤ n → ((List.range m).flatMap (rowL q id n)).Nodup := by
    intro m
    induction m with
    | zero => intro _; simp
    | succ m ih =>
      intro hm
      rw [List.range_succ, List.flatMap_append, List.nodup_append]
      refine ⟨ih (by omega), ?_, ?_⟩
      · simp only [List.flatMap_cons, List.flatMap_nil, List.append_nil]
        unfold rowL
        refine nodup_map (fun x hx y hy e => ?_) (List.nodup_range.filter _)
        simp only [List.mem_filter, List.mem_range] at hx hy
        exact h.inj _ _ hx.1 hy.1 (Prod.mk.inj e).2
      · intro p hp p' hp' e
        subst e
        simp only [List.flatMap_cons, List.flatMap_nil, List.append_nil] at hp'
        unfold rowL at hp hp'
        simp only [List.mem_flatMap, List.mem_map, List.mem_filter, List.mem_range] at hp hp'
        obtain ⟨i, hi, k, _, e1⟩ := hp
        obtain ⟨k', _, e2⟩ := hp'
        have e3 := (Prod.mk.inj (e1.trans e2.symm)).1
        have := h.inj _ _ (by omega) (by omega) e3
        omega
  exact this n (Nat.le_refl _)
/-- Without one of the edges less is told. -/
theorem Ord.less (h : Ord q id n) {x y : List (Int × Int)} {a b : Int} (he : edgesL q id n = x ++ (a, b) :: y) : ¬ Star (x ++ y) a b := by
  intro hs
  have hn := h.edges_nodup
  rw [he] at hn
  have hm : (a, b) ∈ edgesL q id n := by rw [he]; simp
  obtain ⟨i, k, hi, hk, hE, rfl, rfl⟩ := mem_edges.1 hm
  obtain ⟨h1, h2⟩ := edge_iff.1 hE
  have hsub : ∀ p ∈ x ++ y, p ∈ edgesL q id n := fun p hp => by
    rw [he]
    rcases List.mem_append.1 hp with hp | hp
    · exact List.mem_append_left _ hp
    · exact List.mem_append_right _ (List.mem_cons_of_mem _ hp)
  rcases hs.head with e | ⟨c, hc, hs2⟩
  · have := h.inj _ _ hi hk e
    subst this
    rw [h.irr i hi] at h1; cases h1
  · obtain ⟨i', m, hi', hm', hE', e1, rfl⟩ := mem_edges.1 (hsub _ hc)
    obtain rfl := h.inj _ _ hi' hi e1
    have h3 := (edge_iff.1 hE').1
    rcases (h.star hm' hk).1 (hs2.mono hsub) with rfl | h4
    · -- the edge itself stands twice
      rw [List.nodup_append] at hn
      obtain ⟨_, hn2, hn3⟩ := hn
      rcases List.mem_append.1 hc with hc | hc
      · exact hn3 _ hc _ List.mem_cons_self rfl
      · exact (List.nodup_cons.1 hn2).1 hc
    · exact h2 m hm' ⟨h3, h4⟩
/-- What is reached. -/
structure Reach (E : List (Int × Int)) (a : Int) (r : List Int) : Prop where
  nd : r.Nodup
  hd : ∃ t, r = a :: t
  mem : ∀ x, x ∈ r ↔ Star E a x
theorem Reach.tail {E : List (Int × Int)} {a x : Int} {r : List Int} (h : Reach E a r) : x ∈ r.tail ↔ x ≠ a ∧ Star E a x := by
  obtain ⟨t, rfl⟩ := h.hd
  have hn := List.nodup_cons.1 h.nd
  rw [List.tail_cons, ← h.mem, List.mem_cons]
  constructor
  · intro hx; exact ⟨fun e => hn.1 (e ▸ hx), .inr hx⟩
  · rintro ⟨h1, h2 | h2⟩
    · exact absurd h2 h1
    · exact h2
/-- Closed rows are all that is reached. -/
theorem reach_of {E : List (Int × Int)} {a : Int} {r : List Int} (nd : r.Nodup) (hd : ∃ t, r = a :: t) (hs : ∀ x ∈ r, Star E a x) (hc : ∀ x ∈ r, ∀ y, (x, y) ∈ E → y ∈ r) : Reach E a r :=
  ⟨nd, hd, fun x => ⟨hs x, fun h => by
    induction h with
    | refl => obtain ⟨t, rfl⟩ := hd; simp
    | step _ hm ih => exact hc _ ih _ hm⟩⟩
/-- PosetEdges: what is reached is what stands below. -/
theorem Ord.reach_tail (h : Ord q id n) {i k : Nat} (hi : i < n) (hk : k < n) {r : List Int} (hr : Reach (edgesL q id n) (id i) r) : id k ∈ r.tail ↔ q i k = true := by
  rw [hr.tail, h.star hi hk]
  constructor
  · rintro ⟨h1, rfl | h2⟩
    · exact absurd rfl h1
    · exact h2
  · intro h1
    refine ⟨fun e => ?_, .inr h1⟩
    have := h.inj _ _ hk hi e
    subst this
    rw [h.irr k hk] at h1
    cases h1
theorem Ord.reach_less (h : Ord q id n) {x y : List (Int × Int)} {a b : Int} (he : edgesL q id n = x ++ (a, b) :: y) {r : List Int} (hr : Reach (x ++ y) a r) : ¬ b ∈ r.tail := fun hb => h.less he (hr.tail.1 hb).2
/-- Few are reached. -/
theorem nodup_len {L M : List Int} (hd : L.Nodup) (hs : L ⊆ M) : L.length ≤ M.length := by
  induction L generalizing M with
  | nil => simp
  | cons x L ih =>
    have hx : x ∈ M := hs (by simp)
    have h1 := (List.nodup_cons.1 hd)
    have h2 := ih (M := M.erase x) h1.2 fun y hy => (List.mem_erase_of_ne (fun e => h1.1 (by rw [← e]; exact hy))).2 (hs (List.mem_cons_of_mem _ hy))
    have h3 := List.length_erase_of_mem hx
    have h4 := List.length_pos_of_mem hx
    rw [List.length_cons]
    omega
/-- PosetTops. -/
theorem Ord.tops (h : Ord q id n) {i : Nat} (hi : i < n) : (id i ∈ topsL q id n) ↔ ¬ ∃ k, k < n ∧ id k ∈ topsL q id n ∧ q k i = true := by
  have hm : ∀ k, k < n → (id k ∈ topsL q id n ↔ isTop q n k = true) := fun k hk => by
    rw [mem_tops]
    constructor
    · rintro ⟨j, hj, ht, e⟩; rw [← h.inj _ _ hj hk e]; exact ht
    · intro ht; exact ⟨k, hk, ht, rfl⟩
  rw [hm i hi]
  constructor
  · rintro ht ⟨k, hk, _, hq⟩
    rw [top_iff.1 ht k hk] at hq; cases hq
  · intro hn
    rcases h.top_above _ i hi (Nat.le_refl _) with ht | ⟨k, hk, ht, hq⟩
    · exact ht
    · exact absurd ⟨k, hk, (hm k hk).2 ht, hq⟩ hn
/-- Entries of one filter: a row. -/
structure Chain (q : Nat → Nat → Bool) (id : Nat → Int) (n : Nat) : Prop where
  inj : ∀ i k, i < n → k < n → id i = id k → i = k
  is : ∀ i k, i < n → k < n → (q i k = true ↔ id i < id k)
theorem Chain.ord (h : Chain q id n) : Ord q id n where
  irr i hi := by
    cases hq : q i i with
    | false => rfl
    | true => have := (h.is i i hi hi).1 hq; omega
  tr i j k hi hj hk h1 h2 := by
    have := (h.is i j hi hj).1 h1
    have := (h.is j k hj hk).1 h2
    exact (h.is i k hi hk).2 (by omega)
  inj := h.inj
theorem min_ex (id : Nat → Int) : ∀ n, 0 < n → ∃ i, i < n ∧ ∀ k, k < n → id i ≤ id k
  | 0, h => absurd h (by omega)
  | 1, _ => ⟨0, by omega, fun k hk => by have : k = 0 := by omega
                                         subst this; exact Int.le_refl _⟩
  | n + 2, _ => by
    obtain ⟨i, hi, h⟩ := min_ex id (n + 1) (by omega)
    by_cases hle : id i ≤ id (n + 1)
    · exact ⟨i, by omega, fun k hk => by
        by_cases e : k = n + 1
        · subst e; exact hle
        · exact h k (by omega)⟩
    · exact ⟨n + 1, by omega, fun k hk => by
        by_cases e : k = n + 1
        · subst e; exact Int.le_refl _
        · have := h k (by omega); omega⟩
theorem Chain.top (h : Chain q id n) (hn : 0 < n) : ∃ i, i < n ∧ topsL q id n = [id i] ∧ ∀ k, k < n → id i ≤ id k := by
  obtain ⟨i, hi, hm⟩ := min_ex id n hn
  refine ⟨i, hi, ?_, hm⟩
  have ht : isTop q n i = true := top_iff.2 fun k hk => by
    cases hq : q k i with
    | false => rfl
    | true => have := (h.is k i hk hi).1 hq; have := hm k hk; omega
  have hc : cnt n (isTop q n) = 1 := cnt_one hi ht fun k hk hk2 => by
    have h1 := top_iff.1 hk2 i hi
    refine h.inj k i hk hi ?_
    have h2 : ¬ id i < id k := fun hlt => by rw [(h.is i k hi hk).2 hlt] at h1; cases h1
    have := hm k hk
    omega
  unfold topsL
  unfold cnt at hc
  obtain ⟨a, ha⟩ := List.length_eq_one_iff.1 hc
  have : i ∈ (List.range n).filter (isTop q n) := List.mem_filter.2 ⟨List.mem_range.2 hi, ht⟩
  rw [ha] at this ⊢
  simp at this
  subst this
  rfl
theorem Chain.edge (h : Chain q id n) {x y : Int} (he : (x, y) ∈ edgesL q id n) : x < y ∧ ∀ i, i < n → ¬ (x < id i ∧ id i < y) := by
  obtain ⟨i, k, hi, hk, hE, rfl, rfl⟩ := mem_edges.1 he
  obtain ⟨h1, h2⟩ := edge_iff.1 hE
  exact ⟨(h.is i k hi hk).1 h1, fun m hm ⟨a, b⟩ => h2 m hm ⟨(h.is i m hi hm).2 a, (h.is m k hm hk).2 b⟩⟩
theorem row_len (i : Nat) : (rowL q id n i).length = cnt n (isEdge q n i) := by unfold rowL cnt; simp
theorem rows_len : ∀ m, ((List.range m).flatMap (rowL q id n)).length = ((List.range m).map fun i => cnt n (isEdge q n i)).sum := fun m => by
  rw [List.length_flatMap]
  exact congrArg _ (List.map_congr_left fun i _ => row_len i)
/-- Each place but the last has one next below. -/
theorem Chain.next (h : Chain q id n) {i : Nat} (hi : i < n) : cnt n (isEdge q n i) = if ∃ k, k < n ∧ id i < id k then 1 else 0 := by
  by_cases hx : ∃ k, k < n ∧ id i < id k
  · rw [if_pos hx]
    -- the least of those behind
    obtain ⟨k, hk, hlt, hmin⟩ : ∃ k, k < n ∧ id i < id k ∧ ∀ m, m < n → id i < id m → id k ≤ id m := by
      have : ∀ (s k : Nat), k < n → id i < id k → cnt n (fun m => decide (id i < id m) && decide (id m < id k)) ≤ s → ∃ k, k < n ∧ id i < id k ∧ ∀ m, m < n → id i < id m → id k ≤ id m := by
        intro s
        induction s with
        | zero =>
          intro k hk hlt h0
          refine ⟨k, hk, hlt, fun m hm hm2 => ?_⟩
          refine Classical.byContradiction fun hn => ?_
          have := cnt_lt (n := n) (p := fun _ => false) (r := fun m => decide (id i < id m) && decide (id m < id k)) (fun _ _ h => by cases h) hm rfl (by simp [hm2]; omega)
          omega
        | succ s ih =>
          intro k hk hlt h0
          by_cases hall : ∀ m, m < n → id i < id m → id k ≤ id m
          · exact ⟨k, hk, hlt, hall⟩
          · have : ∃ m, m < n ∧ id i < id m ∧ id m < id k := by
              refine Classical.byContradiction fun hn => hall fun m hm hm2 => ?_
              refine Classical.byContradiction fun hn2 => hn ⟨m, hm, hm2, by omega⟩
            obtain ⟨m, hm, hm2, hm3⟩ := this
            refine ih m hm hm2 ?_
            have := cnt_lt (n := n) (p := fun j => decide (id i < id j) && decide (id j < id m)) (r := fun j => decide (id i < id j) && decide (id j < id k)) (fun j _ hp => by simp at hp ⊢; omega) hm (by simp) (by simp; omega)
            omega
      obtain ⟨k, hk, hlt⟩ := hx
      exact this _ k hk hlt (Nat.le_refl _)
    refine cnt_one hk (edge_iff.2 ⟨(h.is i k hi hk).2 hlt, fun m hm ⟨a, b⟩ => ?_⟩) fun m hm hE => ?_
    · have := hmin m hm ((h.is i m hi hm).1 a)
      have := (h.is m k hm hk).1 b
      omega
    · obtain ⟨h1, h2⟩ := edge_iff.1 hE
      have l1 := (h.is i m hi hm).1 h1
      have l2 := hmin m hm l1
      refine h.inj m k hm hk ?_
      refine Classical.byContradiction fun hne => ?_
      exact h2 k hk ⟨(h.is i k hi hk).2 hlt, (h.is k m hk hm).2 (by omega)⟩
  · rw [if_neg hx]
    refine cnt_none fun k hk => ?_
    cases hE : isEdge q n i k with
    | false => rfl
    | true => exact absurd ⟨k, hk, (h.is i k hi hk).1 (edge_iff.1 hE).1⟩ hx
theorem sum_cnt (p : Nat → Bool) : ∀ m, ((List.range m).map fun i => if p i = true then 1 else 0).sum = cnt m p
  | 0 => rfl
  | m + 1 => by rw [List.range_succ, List.map_append, List.sum_append, sum_cnt p m, cnt_succ]; simp
theorem cnt_not (p : Nat → Bool) : ∀ m, cnt m p + cnt m (fun i => !p i) = m
  | 0 => rfl
  | m + 1 => by have := cnt_not p m; rw [cnt_succ, cnt_succ]; cases p m <;> simp <;> omega
theorem Chain.len (h : Chain q id n) (hn : 0 < n) : (edgesL q id n).length = n - 1 := by
  unfold edgesL
  rw [rows_len]
  have hd : ∀ i, i < n → (∃ k, k < n ∧ id i < id k) ∨ ¬ ∃ k, k < n ∧ id i < id k := fun i _ => Classical.em _
  have e : ((List.range n).map fun i => cnt n (isEdge q n i)) = (List.range n).map fun i => if (List.range n).any (fun k => decide (id i < id k)) = true then 1 else 0 := by
    refine List.map_congr_left fun i hi => ?_
    rw [h.next (List.mem_range.1 hi)]
    have : (List.range n).any (fun k => decide (id i < id k)) = true ↔ ∃ k, k < n ∧ id i < id k := by simp
    by_cases hx : ∃ k, k < n ∧ id i < id k
    · rw [if_pos hx, if_pos (this.2 hx)]
    · rw [if_neg hx, if_neg (fun h => hx (this.1 h))]
  rw [e, sum_cnt]
  have h2 := cnt_not (fun i => (List.range n).any fun k => decide (id i < id k)) n
  obtain ⟨m, hm, hmm⟩ := min_ex (fun i => - id i) n hn
  have h3 : cnt n (fun i => !(List.range n).any fun k => decide (id i < id k)) = 1 := by
    refine cnt_one hm (by simp; intro k hk; have := hmm k hk; omega) fun i hi hp => ?_
    simp at hp
    have := hp m hm
    have := hmm i hi
    exact h.inj i m hi hm (by omega)
  omega
/-- Where none stands above another one. -/
theorem flat_tops (h : ∀ i k, i < n → k < n → q i k = false) : topsL q id n = (List.range n).map id := by
  unfold topsL
  rw [List.filter_eq_self.2 fun i hi => top_iff.2 fun k hk => h k i hk (List.mem_range.1 hi)]
theorem flat_edges (h : ∀ i k, i < n → k < n → q i k = false) : edgesL q id n = [] := by
  unfold edgesL
  rw [List.flatMap_eq_nil_iff]
  intro i hi
  unfold rowL
  rw [List.map_eq_nil_iff, List.filter_eq_nil_iff]
  intro k hk hE
  have := (edge_iff.1 hE).1
  rw [h i k (List.mem_range.1 hi) (List.mem_range.1 hk)] at this
  cases this
/-- At most so many edges. -/
theorem edges_le : (edgesL q id n).length ≤ n * n := by
  unfold edgesL
  have : ∀ m, ((List.range m).flatMap (rowL q id n)).length ≤ m * n := by
    intro m
    induction m with
    | zero => simp
    | succ m ih =>
      rw [List.range_succ, List.flatMap_append, List.length_append, Nat.succ_mul]
      have : ([m].flatMap (rowL q id n)).length ≤ n := by
        simp only [List.flatMap_cons, List.flatMap_nil, List.append_nil]
        unfold rowL
        rw [List.length_map]
        exact Nat.le_trans (List.length_filter_le _ _) (by simp)
      omega
  exact this n
end Po
namespace Fil
open Spans
theorem in_none {a b : Sp} (ha : Canon a) (hb : Canon b) (h : inn a b = true) (h0 : b.kind = 0) : a.kind = 0 := by
  have hb0 := kind_none hb h0
  subst hb0
  have : a = none_ := Spans.one ha hb fun v => by
    cases hv : has a v with
    | false => rfl
    | true => exact ((in_iff ha hb).1 h v hv).symm
  rw [this]; exact h0
/-- What covers what covers, covers. -/
theorem Cov.trans {f g h : List Pr} (a : Cov f g) (b : Cov g h) : Cov f h := by
  obtain ⟨a1, a2, S, T, hS, hT, ha⟩ := a
  obtain ⟨_, b2, T', U, hT', hU, hb⟩ := b
  refine ⟨a1, b2, S, U, hS, hU, ?_⟩
  rcases hb with hb | hb
  · exact .inl hb
  rcases ha with ⟨p, hp, e⟩ | ha
  · refine .inl ?_
    have hg : Asked g p.n := ⟨p, hp, rfl⟩
    obtain ⟨⟨p', hp', e'⟩, h2⟩ := hb p.n hg
    refine ⟨p', hp', ?_⟩
    rw [e']
    rw [hT'.one hT hg] at h2
    exact in_none (hU p.n ⟨p', hp', e'⟩).1 (hT p.n hg).1 h2 e
  · refine .inr fun n hn => ?_
    obtain ⟨hg, h1⟩ := ha n hn
    obtain ⟨hh, h2⟩ := hb n hg
    refine ⟨hh, (in_iff (hU n hh).1 (hS n hn).1).2 fun v hv => ?_⟩
    rw [hT'.one hT hg] at h2
    exact (in_iff (hT n hg).1 (hS n hn).1).1 h1 v ((in_iff (hU n hh).1 (hT n hg).1).1 h2 v hv)
end Fil
namespace Po
/-- Does an entry stand above another one? -/
def Abv (i : Int) (f : List Spans.Pr) (k : Int) (g : List Spans.Pr) : Prop := i ≠ k ∧ Fil.Cov f g ∧ (i < k ∨ ¬ Fil.Cov g f)
theorem Abv.irr {i : Int} {f g : List Spans.Pr} : ¬ Abv i f i g := fun h => h.1 rfl
theorem Abv.asym {i k : Int} {f g : List Spans.Pr} (h : Abv i f k g) : ¬ Abv k g i f := fun h2 => by
  rcases h.2.2 with a | a
  · rcases h2.2.2 with b | b
    · omega
    · exact b h.2.1
  · exact a h2.2.1
theorem Abv.trans {i k m : Int} {f g h : List Spans.Pr} (a : Abv i f k g) (b : Abv k g m h) (hne : i ≠ m) : Abv i f m h := by
  refine ⟨hne, a.2.1.trans b.2.1, ?_⟩
  by_cases hc : Fil.Cov h f
  · left
    have h1 := a.2.2.resolve_right fun hn => hn (b.2.1.trans hc)
    have h2 := b.2.2.resolve_right fun hn => hn (hc.trans a.2.1)
    omega
  · exact .inr hc
/-- What stands above what, by places. -/
def Told (q : Nat → Nat → Bool) (id : Nat → Int) (f : Nat → List Spans.Pr) (n : Nat) : Prop := ∀ i k, i < n → k < n → (q i k = true ↔ Abv (id i) (f i) (id k) (f k))
theorem Told.ord {q : Nat → Nat → Bool} {id : Nat → Int} {f : Nat → List Spans.Pr} {n : Nat} (h : Told q id f n) (hi : ∀ i k, i < n → k < n → id i = id k → i = k) : Ord q id n where
  irr i hn := by
    cases hq : q i i with
    | false => rfl
    | true => exact absurd ((h i i hn hn).1 hq) Abv.irr
  tr i j k h1 h2 h3 ha hb := by
    have a := (h i j h1 h2).1 ha
    have b := (h j k h2 h3).1 hb
    refine (h i k h1 h3).2 (a.trans b fun e => ?_)
    have := hi i k h1 h3 e
    subst this
    exact a.asym b
  inj := hi
theorem Told.chain {q : Nat → Nat → Bool} {id : Nat → Int} {g : List Spans.Pr} {n : Nat} (h : Told q id (fun _ => g) n) (hi : ∀ i k, i < n → k < n → id i = id k → i = k) (hc : Fil.Cov g g) : Chain q id n where
  inj := hi
  is i k h1 h2 := by
    rw [h i k h1 h2]
    constructor
    · rintro ⟨_, _, a | a⟩
      · exact a
      · exact absurd hc a
    · intro a; exact ⟨by omega, hc, .inl a⟩
theorem Told.flat {q : Nat → Nat → Bool} {id : Nat → Int} {g : List Spans.Pr} {n : Nat} (h : Told q id (fun _ => g) n) (hc : ¬ Fil.Cov g g) : ∀ i k, i < n → k < n → q i k = false := fun i k h1 h2 => by
  cases hq : q i k with
  | false => rfl
  | true => exact absurd ((h i k h1 h2).1 hq).2.1 hc
end Po
end Go.Proofs.Ytckabmlilbkmbaa
namespace Go.Proofs.Ytckabmlilbkmbaa
open Go.RowKit Go.Sort Spans Tb
set_option maxRecDepth 100000 in
set_option maxHeartbeats 1000000 in
theorem above_at (x y : Ex) (hx : x.f.length = x.n) (hmx : x.n ≤ 1000) (hpx : PBd x.f) (hy : y.f.length = y.n) (hmy : y.n ≤ 1000) (hpy : PBd y.f) (w : World) (hr : RdQ w x.A x.f) (hr' : RdQ w y.A y.f) (q : Bool) (hq : q = true ↔ Po.Abv x.id x.f y.id y.f) :
    Calls Try.prog 12 #[exV x, exV y] w fun e w' => e = .returned (.bool q) ∧ Below w.heap.size w w' := by
  obtain ⟨xi, xr, xA, xn, xc, xf⟩ := x
  obtain ⟨yi, yr, yA, yn, yc, yf⟩ := y
  dsimp only at *
  have HX := Lib.hid hx
  have HY := Lib.hid hy
  have HPX := Lib.hid hpx
  have HPY := Lib.hid hpy
  have HQ := Lib.hid hq
  have hB0 := (gr2 w (.cells #[.int .i64 xi, .int .i64 xr, .slice xA xn xc] 28) (.cells #[.int .i64 yi, .int .i64 yr, .slice yA yn yc] 28)).below
  have hX0 := (Blk.new w 28 #[.int .i64 xi, .int .i64 xr, .slice xA xn xc]).alloc (.cells #[.int .i64 yi, .int .i64 yr, .slice yA yn yc] 28)
  have hY0 := Blk.new (w.alloc (.cells #[.int .i64 xi, .int .i64 xr, .slice xA xn xc] 28)) 28 #[.int .i64 yi, .int .i64 yr, .slice yA yn yc]
  rw [show (w.alloc (.cells #[.int .i64 xi, .int .i64 xr, .slice xA xn xc] 28)).heap.size = w.heap.size + 1 by simp] at hY0
  have RX := Lib.hid (RdK.below hr hB0)
  have RY := Lib.hid (RdK.below hr' hB0)
  have BB := Lib.hid hB0
  have BX := Lib.hid hX0
  have BY := Lib.hid hY0
  clear hx hy hq hB0 hX0 hY0 hr hr' hpx hpy
  obtain ⟨x0, x1, x2⟩ := cells3 BX.out
  obtain ⟨y0, y1, y2⟩ := cells3 BY.out
  have hl1 := BX.out.lt
  have hl2 := BY.out.lt
  by_cases h1 : xi = yi
  · have d1 : (xi == yi) = true := beq_iff_eq.2 h1
    have HF : Hid (false = q) := by
      cases q with
      | false => rfl
      | true => exact absurd h1 (HQ.out.1 rfl).1
    clear h1
    go_enter Try.func12, Try.ntmps12
    go_wp2_with fail
    go_ret
    exact ⟨ret_b HF.out, BB.out⟩
  · have d1 : (xi == yi) = false := beq_eq_false_iff_ne.2 h1
    have H1 := Lib.hid h1
    clear h1
    go_enter Try.func12, Try.ntmps12
    go_wp2_with fail
    refine (covers_at xA xf xn xc HX.out hmx HPX.out yA yf yn yc HY.out hmy HPY.out _ RX.out RY.out).mono ?_
    rintro e w2 ⟨q2, rfl, hq2, hb⟩
    have HQ2 := Lib.hid hq2
    replace BX := Lib.hid (Blk.below BX.out hb BX.out.lt)
    replace BY := Lib.hid (Blk.below BY.out hb BY.out.lt)
    replace RX := Lib.hid (RdK.below RX.out hb)
    replace RY := Lib.hid (RdK.below RY.out hb)
    replace BB := Lib.hid (below_next BB.out (by have := BB.out.size; omega) hb)
    clear x0 x1 x2 y0 y1 y2 hl1 hl2 hb hq2
    obtain ⟨x0, x1, x2⟩ := cells3 BX.out
    obtain ⟨y0, y1, y2⟩ := cells3 BY.out
    have hl1 := BX.out.lt
    have hl2 := BY.out.lt
    cases q2 with
    | false =>
      have HF : Hid (false = q) := by
        cases q with
        | false => rfl
        | true => exact HQ2.out.2 (HQ.out.1 rfl).2.1
      go_wp2_with fail
      go_ret
      exact ⟨ret_b HF.out, BB.out⟩
    | true =>
      have HC := Lib.hid (HQ2.out.1 rfl)
      clear HQ2
      by_cases h3 : xi < yi
      · have d3 : decide (xi < yi) = true := decide_eq_true h3
        have HF : Hid (true = q) := (HQ.out.2 ⟨H1.out, HC.out, .inl h3⟩).symm
        clear h3
        go_wp2_with fail
        go_ret
        exact ⟨ret_b HF.out, BB.out⟩
      · have d3 : decide (xi < yi) = false := decide_eq_false h3
        have H3 := Lib.hid h3
        clear h3
        go_wp2_with fail
        refine (covers_at yA yf yn yc HY.out hmy HPY.out xA xf xn xc HX.out hmx HPX.out _ RY.out RX.out).mono ?_
        rintro e w3 ⟨q3, rfl, hq3, hb⟩
        have HF : Hid ((!q3) = q) := by
          show _ = _
          rw [Bool.eq_iff_iff, HQ.out, Bool.not_eq_true']
          constructor
          · intro h; exact ⟨H1.out, HC.out, .inr fun hc => by rw [hq3.2 hc] at h; cases h⟩
          · rintro ⟨_, _, h | h⟩
            · exact absurd h (by have := H3.out; omega)
            · cases q3 with
              | false => rfl
              | true => exact absurd (hq3.1 rfl) h
        replace BB := Lib.hid (below_next BB.out (by have := BB.out.size; omega) hb)
        clear x0 x1 x2 y0 y1 y2 hl1 hl2 hb hq3
        go_wp2_with fail
        go_ret
        exact ⟨ret_b HF.out, BB.out⟩
end Go.Proofs.Ytckabmlilbkmbaa
namespace Go.Proofs.Ytckabmlilbkmbaa
open Go.RowKit Go.ChangeShapes Go.WideShapes Go.Deep Go.Sort
def layI : LayZ Int where
  enc := fun i => [.int .i64 i]
  k := 1
  T := 3
  zero := .int .i64 0
  bytes := 8
  len := fun _ => rfl
  one := fun a v hv => by simp at hv; subst hv; rfl
  pos := by decide
  zlen := rfl
  info := by kernel_rfl
theorem underI : Try.prog.underlying 30 = some (.slice layI.T) := Try.underlying30
def layN : LayZ (Int × Int) where
  enc := fun p => [.int .i64 p.1, .int .i64 p.2]
  k := 2
  T := 38
  zero := .agg #[.int .i64 0, .int .i64 0]
  bytes := 16
  len := fun _ => rfl
  one := fun a v hv => by
    simp only [List.mem_cons, List.not_mem_nil, or_false] at hv
    rcases hv with rfl | rfl <;> rfl
  pos := by decide
  zlen := rfl
  info := by kernel_rfl
theorem underN : Try.prog.underlying 33 = some (.slice layN.T) := Try.underlying33
def layB : LayZ Bool where
  enc := fun b => [.bool b]
  k := 1
  T := 4
  zero := .bool false
  bytes := 1
  len := fun _ => rfl
  one := fun a v hv => by simp at hv; subst hv; rfl
  pos := by decide
  zlen := rfl
  info := by kernel_rfl
theorem underB : Try.prog.underlying 51 = some (.slice layB.T) := Try.underlying51
/-- A slice: where it leads, how long, how much room. -/
structure Sl where
  A : Option Addr
  n : Nat
  c : Nat
instance : Inhabited Sl := ⟨⟨none, 0, 0⟩⟩
def laySl : LayZ Sl where
  enc := fun s => [.slice s.A s.n s.c]
  k := 1
  T := 51
  zero := .slice none 0 0
  bytes := 24
  len := fun _ => rfl
  one := fun a v hv => by simp at hv; subst hv; rfl
  pos := by decide
  zlen := rfl
  info := by kernel_rfl
theorem underSl : Try.prog.underlying 49 = some (.slice laySl.T) := Try.underlying49
theorem RdI.at1 {w : World} {A : Option Addr} {es : List Int} (h : RdZ layI w A es) {k : Nat} (hk : k < es.length) : ∃ g off, A = some ⟨g, off, none⟩ ∧ g < w.heap.size ∧ w.cell? ⟨g, off + k, none⟩ = some (.int .i64 es[k]) := by
  obtain ⟨g, off, e, hg, hc⟩ := h.at_ hk
  refine ⟨g, off, e, hg, ?_⟩
  have := hc 0 _ rfl
  simpa [layI] using this
theorem RdN.at2 {w : World} {A : Option Addr} {es : List (Int × Int)} (h : RdZ layN w A es) {k : Nat} (hk : k < es.length) : ∃ g off, A = some ⟨g, off, none⟩ ∧ g < w.heap.size ∧ w.cell? ⟨g, off + k * 2, none⟩ = some (.int .i64 es[k].1) ∧ w.cell? ⟨g, off + k * 2 + 1, none⟩ = some (.int .i64 es[k].2) := by
  obtain ⟨g, off, e, hg, hc⟩ := h.at_ hk
  refine ⟨g, off, e, hg, ?_, ?_⟩
  · have := hc 0 _ rfl
    simpa [layN] using this
  · have := hc 1 _ rfl
    simpa [layN] using this
/-- A table of bools: rows of n, one behind the other. -/
def RdM (w : World) (A : Option Addr) (n : Nat) (q : Nat → Nat → Bool) : Prop :=
  ∃ rows : List Sl, rows.length = n ∧ RdZ laySl w A rows ∧ ∀ i (h : i < rows.length), rows[i].n = n ∧ RdZ layB w rows[i].A ((List.range n).map (q i))
theorem RdM.below {w w' : World} {A : Option Addr} {n : Nat} {q : Nat → Nat → Bool} (h : RdM w A n q) (hb : Below w.heap.size w w') : RdM w' A n q := by
  obtain ⟨rows, h1, h2, h3⟩ := h
  exact ⟨rows, h1, h2.below hb, fun i hi => ⟨(h3 i hi).1, (h3 i hi).2.below hb⟩⟩
theorem RdM.addr {w : World} {A : Option Addr} {n : Nat} {q : Nat → Nat → Bool} (h : RdM w A n q) (hn : 0 < n) : ∃ g off, A = some ⟨g, off, none⟩ := by
  obtain ⟨rows, h1, h2, h3⟩ := h
  obtain ⟨g, off, e, _⟩ := h2.at_ (k := 0) (by omega)
  exact ⟨g, off, e⟩
theorem RdM.get {w : World} {g off : Nat} {n : Nat} {q : Nat → Nat → Bool} (h : RdM w (some ⟨g, off, none⟩) n q) {i k : Nat} (hi : i < n) (hk : k < n) :
    g < w.heap.size ∧ ∃ g2 off2 c2, w.cell? ⟨g, off + i, none⟩ = some (.slice (some ⟨g2, off2, none⟩) n c2) ∧ g2 < w.heap.size ∧ w.cell? ⟨g2, off2 + k, none⟩ = some (.bool (q i k)) := by
  obtain ⟨rows, h1, h2, h3⟩ := h
  obtain ⟨g', off', e, hg, hc⟩ := h2.at_ (k := i) (by omega)
  injection e with e; injection e with e1 e2
  subst e1; subst e2
  refine ⟨hg, ?_⟩
  obtain ⟨h4, h5⟩ := h3 i (by omega)
  obtain ⟨g2, off2, e, hg2, hc2⟩ := h5.at_ (k := k) (by simpa using hk)
  have c0 := hc 0 _ rfl
  have c1 := hc2 0 _ rfl
  rw [e, h4] at c0
  refine ⟨g2, off2, _, by simpa [laySl] using c0, hg2, by simpa [layB] using c1⟩
end Go.Proofs.Ytckabmlilbkmbaa
namespace Go.Proofs.Ytckabmlilbkmbaa
open Go.RowKit Go.Sort Spans Tb
def idAt (es : List Ex) (i : Nat) : Int := (es[i]?.map Ex.id).getD 0
def flAt (es : List Ex) (i : Nat) : List Pr := (es[i]?.map Ex.f).getD []
theorem idAt_is {es : List Ex} {i : Nat} (h : i < es.length) : idAt es i = es[i].id := by unfold idAt; rw [List.getElem?_eq_getElem h]; rfl
theorem flAt_is {es : List Ex} {i : Nat} (h : i < es.length) : flAt es i = es[i].f := by unfold flAt; rw [List.getElem?_eq_getElem h]; rfl
/-- Entries whose filters are short, and bounded. -/
def EFew (es : List Ex) : Prop := ∀ x ∈ es, x.n ≤ 1000 ∧ PBd x.f
/-- What stands above what among entries. -/
def Abvs (es : List Ex) (n : Nat) (q : Nat → Nat → Bool) : Prop := Po.Told q (idAt es) (flAt es) n
theorem Abvs.at_ {es : List Ex} {n : Nat} {q : Nat → Nat → Bool} (h : Abvs es n q) (hn : es.length = n) {i k : Nat} {x y : Ex} (hi : i < n) (hk : k < n) (ex : ∀ hh, es[i]'hh = x) (ey : ∀ hh, es[k]'hh = y) : q i k = true ↔ Po.Abv x.id x.f y.id y.f := by
  have := h i k hi hk
  rw [idAt_is (by omega), idAt_is (by omega), flAt_is (by omega), flAt_is (by omega), ex, ey] at this
  exact this
theorem abvs_ex (es : List Ex) (n : Nat) : ∃ q, Abvs es n q := by
  refine ⟨fun i k => @decide (Po.Abv (idAt es i) (flAt es i) (idAt es k) (flAt es k)) (Classical.propDecidable _), fun i k _ _ => ?_⟩
  exact @decide_eq_true_iff _ (Classical.propDecidable _)
theorem Abvs.one {es : List Ex} {n : Nat} {q r : Nat → Nat → Bool} (h : Abvs es n q) (k : Abvs es n r) : ∀ i j, i < n → j < n → q i j = r i j := fun i j hi hj => by
  rw [Bool.eq_iff_iff, h i j hi hj, k i j hi hj]
namespace Po
variable {q : Nat → Nat → Bool} {id : Nat → Int} {n : Nat}
def topsTo (q : Nat → Nat → Bool) (id : Nat → Int) (n k : Nat) : List Int := ((List.range k).filter (isTop q n)).map id
theorem topsTo_yes {k : Nat} (h : isTop q n k = true) : topsTo q id n (k + 1) = topsTo q id n k ++ [id k] := by
  unfold topsTo; rw [List.range_succ, List.filter_append, List.map_append]; simp [h]
theorem topsTo_no {k : Nat} (h : isTop q n k = false) : topsTo q id n (k + 1) = topsTo q id n k := by
  unfold topsTo; rw [List.range_succ, List.filter_append, List.map_append]; simp [h]
theorem topsTo_len (k : Nat) : (topsTo q id n k).length ≤ k := by
  unfold topsTo; rw [List.length_map]; exact Nat.le_trans (List.length_filter_le _ _) (by simp)
theorem top_yes {i : Nat} (h : ∀ k, k < n → q k i = false) : isTop q n i = true := top_iff.2 h
theorem top_no {i k : Nat} (hk : k < n) (h : q k i = true) : isTop q n i = false := by
  cases ht : isTop q n i with
  | false => rfl
  | true => rw [top_iff.1 ht k hk] at h; cases h
def rowTo (q : Nat → Nat → Bool) (id : Nat → Int) (n i k : Nat) : List (Int × Int) := ((List.range k).filter (isEdge q n i)).map fun j => (id i, id j)
def edgesTo (q : Nat → Nat → Bool) (id : Nat → Int) (n i : Nat) : List (Int × Int) := (List.range i).flatMap (rowL q id n)
/-- The edges that are told ahead of the pair of places i, k. -/
def upTo (q : Nat → Nat → Bool) (id : Nat → Int) (n i k : Nat) : List (Int × Int) := edgesTo q id n i ++ rowTo q id n i k
theorem upTo_row {i : Nat} : upTo q id n i n = upTo q id n (i + 1) 0 := by
  unfold upTo edgesTo rowTo
  rw [List.range_succ, List.flatMap_append]
  simp [rowL]
theorem upTo_all : upTo q id n n 0 = edgesL q id n := by unfold upTo edgesTo rowTo edgesL; simp
theorem upTo_yes {i k : Nat} (h : isEdge q n i k = true) : upTo q id n i (k + 1) = upTo q id n i k ++ [(id i, id k)] := by
  unfold upTo rowTo; rw [List.range_succ, List.filter_append, List.map_append]; simp [h]
theorem upTo_no {i k : Nat} (h : isEdge q n i k = false) : upTo q id n i (k + 1) = upTo q id n i k := by
  unfold upTo rowTo; rw [List.range_succ, List.filter_append, List.map_append]; simp [h]
theorem upTo_len {i k : Nat} : (upTo q id n i k).length ≤ i * n + k := by
  unfold upTo
  rw [List.length_append]
  have h1 : (rowTo q id n i k).length ≤ k := by
    unfold rowTo; rw [List.length_map]; exact Nat.le_trans (List.length_filter_le _ _) (by simp)
  have h2 : (edgesTo q id n i).length ≤ i * n := by
    unfold edgesTo
    induction i with
    | zero => simp
    | succ i ih =>
      rw [List.range_succ, List.flatMap_append, List.length_append, Nat.succ_mul]
      have h3 : ([i].flatMap (rowL q id n)).length ≤ n := by
        simp only [List.flatMap_cons, List.flatMap_nil, List.append_nil]
        unfold rowL; rw [List.length_map]
        exact Nat.le_trans (List.length_filter_le _ _) (by simp)
      have h4 : ∀ (j : Nat), (rowTo q id n j k).length ≤ k := fun j => by
        unfold rowTo; rw [List.length_map]; exact Nat.le_trans (List.length_filter_le _ _) (by simp)
      have := ih (h4 i)
      omega
  omega
theorem edge_yes {i k : Nat} (h : q i k = true) (hm : ∀ m, m < n → (q i m && q m k) = false) : isEdge q n i k = true := edge_iff.2 ⟨h, fun m hm' ⟨a, b⟩ => by have := hm m hm'; rw [a, b] at this; cases this⟩
theorem edge_no {i k : Nat} (h : q i k = false) : isEdge q n i k = false := by unfold isEdge; rw [h]; rfl
theorem edge_not {i k m : Nat} (hm : m < n) (h : (q i m && q m k) = true) : isEdge q n i k = false := by
  cases he : isEdge q n i k with
  | false => rfl
  | true =>
    rw [Bool.and_eq_true] at h
    exact absurd h ((edge_iff.1 he).2 m hm)
end Po
end Go.Proofs.Ytckabmlilbkmbaa
namespace Go.Proofs.Ytckabmlilbkmbaa
open Go.RowKit Go.Sort Spans Tb
/-- Ints in new memory. -/
def GivesI (w : World) (l : List Int) (e : Ending) (w' : World) : Prop := ∃ (B : Option Addr) (m d : Nat), e = .returned (.slice B m d) ∧ l.length = m ∧ m ≤ d ∧ RdZ layI w' B l ∧ Below w.heap.size w w'
set_option maxRecDepth 100000 in
set_option maxHeartbeats 2000000 in
theorem tops_at (A : Option Addr) (es : List Ex) (n c : Nat) (hn : es.length = n) (hm : n ≤ 1000) (hf : EFew es) (w : World) (hr : RdEn w A es) (q : Nat → Nat → Bool) (hq : Abvs es n q) :
    Calls Try.prog 15 #[.slice A n c] w (GivesI w (Po.topsL q (idAt es) n)) := by
  have HN := Lib.hid hn
  have HF := Lib.hid hf
  have HR := Lib.hid hr
  have HQ := Lib.hid hq
  obtain ⟨id, hid⟩ : ∃ id, idAt es = id := ⟨_, rfl⟩
  have HID := Lib.hid hid
  rw [hid]
  have hb0 : Below w.heap.size w (w.alloc (.cells #[] 3)) := (gr1 w _).below
  have HB0 := Lib.hid hb0
  have HO0 := Lib.hid (OwnZ.empty (L := layI) w w.heap.size (Nat.le_refl _))
  clear hn hf hr hq hb0 hid
  go_enter Try.func15, Try.ntmps15
  go_wp2_with fail
  go_step3
  go_wp2_with fail
  go_step3
  go_wp2_with fail
  go_loopg [3, 11] n (fun gg s3 s11 wr => ∃ (k m d : Nat) (B : Option Addr), k ≤ n ∧ n - k ≤ gg ∧ s11 = .int .i64 (k : Int) ∧ s3 = .slice B m d ∧ m ≤ d ∧ m ≤ k ∧ Hid ((Po.topsTo q id n k).length = m) ∧ Hid (OwnZ layI wr w.heap.size (.slice B m d) (Po.topsTo q id n k)) ∧ Hid (Below w.heap.size w wr))
  case atStart => exact ⟨0, 0, 0, _, Nat.zero_le _, by omega, rfl, rfl, Nat.le_refl _, Nat.le_refl _, rfl, HO0, HB0⟩
  case round =>
    obtain ⟨k, m, d, B, hk, hgg, rfl, rfl, hmd, hmk, HM, HO, HB⟩ := hrel
    clear HB0 HO0
    by_cases hlt : k < n
    · have hk' : k < es.length := by rw [HN.out]; exact hlt
      obtain ⟨g, off, rfl, hg, c0, c1, c2, hf⟩ := RdEn.at3 (HR.out.below HB.out) hk'
      have hix := HID.out
      have hsx := HF.out _ (List.getElem_mem hk')
      have hid : idAt es k = es[k].id := idAt_is hk'
      obtain ⟨x, hx⟩ : ∃ x, es[k] = x := ⟨_, rfl⟩
      have HX := Lib.hid hx
      rw [hx] at c0 c1 c2 hf hsx hid
      clear hx
      obtain ⟨xi, xr, xA, xn, xc, xf⟩ := x
      obtain ⟨hf1, hf2, hf3⟩ := hf
      dsimp only at c0 c1 c2 hsx hf1 hf2 hf3 hid
      rw [hix] at hid
      have w5 : (k : Int) < (n : Int) := by omega
      have hbA : Below wr.heap.size wr (wr.alloc (.cells #[.int .i64 xi, .int .i64 xr, .slice xA xn xc] 28)) := (gr1 wr (.cells #[.int .i64 xi, .int .i64 xr, .slice xA xn xc] 28)).below
      have BX := Lib.hid (Blk.new wr 28 #[.int .i64 xi, .int .i64 xr, .slice xA xn xc])
      have HB1 := Lib.hid (below_next HB.out (Nat.le_refl _) hbA)
      have HO1 := Lib.hid (OwnZ.below HO.out hbA)
      have HXA : Hid (xf.length = xn) := hf1
      have HXP := Lib.hid hsx
      have HXI := Lib.hid hid
      have hsz : w.heap.size ≤ wr.heap.size := HB.out.size
      clear hbA hf1 hf2 hf3 hsx hix hid HO HB
      go_wp2_with fail
      clear c0 c1 c2 hg
      generalize wr.alloc (.cells #[.int .i64 xi, .int .i64 xr, .slice xA xn xc] 28) = wo at *
      generalize wr.heap.size = pl at *
      go_loopg [17] n (fun g2 s17 wy => ∃ j : Nat, j + g2 = n ∧ s17 = .int .i64 (j : Int) ∧ Hid (Below wo.heap.size wo wy) ∧ Hid (∀ i, i < j → q i k = false))
      case atStart => exact ⟨0, by omega, rfl, Below.refl _ _, fun i hi => by omega⟩
      case round =>
        obtain ⟨j, hjg, rfl, HG, HL⟩ := hrel
        have BX2 := Lib.hid (Blk.below BX.out HG.out BX.out.lt)
        have HB2 := Lib.hid (below_next HB1.out (Nat.le_refl _) HG.out)
        have HO2 := Lib.hid (OwnZ.below HO1.out HG.out)
        obtain ⟨x0, x1, x2⟩ := cells3 BX2.out
        have hlx := BX2.out.lt
        cases gk with
        | zero =>
          obtain rfl : j = n := by omega
          have HT : Hid (Po.topsTo q id j (k + 1) = Po.topsTo q id j k ++ [xi]) := by
            show _ = _
            rw [Po.topsTo_yes (Po.top_yes HL.out), HXI.out]
          have hrx := rdz_one layI wr xi 3 #[.int .i64 xi] rfl
          have hbq : Below wr.heap.size wr (wr.alloc (.cells #[.int .i64 xi] 3)) := (gr1 wr _).below
          have ho3 := OwnZ.below HO2.out hbq
          have hs3 : w.heap.size ≤ (wr.alloc (.cells #[.int .i64 xi] 3)).heap.size := Nat.le_trans HB2.out.size hbq.size
          have hb3 := below_next HB2.out (Nat.le_refl _) hbq
          have hlm := HM.out
          go_wp2_with (at_builtin; refine wpList_append_z layI (by rfl) (.tmp 25) (.tmp 28) 30 underI rfl w.heap.size _ (Po.topsTo q id j k) (by rfl) ho3 _ [xi] 1 1 (by rfl) hrx rfl (by rw [maxLen_num, hlm]; omega) (by simp only [layI]; rw [hlm]; omega) hs3 ?_; intro v2 y2 o2 b2 _ _; rw [← HT.out] at o2; have hl2 : (Po.topsTo q id j (k + 1)).length = m + 1 := (by rw [HT.out, List.length_append, hlm]; rfl); obtain ⟨B2, d2, hv2, hd2, _⟩ := OwnZ.form o2 hl2; subst hv2; have HB3 := Lib.hid (b2 w hb3); have HO3 := Lib.hid o2; have HM3 := Lib.hid hl2; clear b2 o2 hl2 hb3 ho3 hrx hbq hs3 hlm)
          go_roundg (j - (k + 1))
          case measure => omega
          case rel => exact ⟨k + 1, m + 1, d2, B2, by omega, Nat.le_refl _, by go_num, rfl, hd2, by omega, HM3, HO3, HB3⟩
        | succ gk =>
          have hj' : j < es.length := by rw [HN.out]; omega
          obtain ⟨g', off', e0, hg, c0, c1, c2, hf⟩ := RdEn.at3 (HR.out.below HB2.out) hj'
          injection e0 with e0
          injection e0 with e1 e2
          subst e1; subst e2
          have hsy := HF.out _ (List.getElem_mem hj')
          have hjn : j < n := by omega
          obtain ⟨y, hy⟩ : ∃ y, es[j] = y := ⟨_, rfl⟩
          have HY := Lib.hid hy
          rw [hy] at c0 c1 c2 hf hsy
          clear hy
          have HQJ := Lib.hid (HQ.out.at_ HN.out hjn hlt (fun _ => HY.out) (fun _ => HX.out))
          obtain ⟨yi, yr, yA, yn, yc, yf⟩ := y
          obtain ⟨hf1, hf2, hf3⟩ := hf
          dsimp only at c0 c1 c2 hsy hf1 hf2 hf3
          have w6 : (j : Int) < (n : Int) := by omega
          have hbA : Below wr.heap.size wr (wr.alloc (.cells #[.int .i64 yi, .int .i64 yr, .slice yA yn yc] 28)) := (gr1 wr (.cells #[.int .i64 yi, .int .i64 yr, .slice yA yn yc] 28)).below
          have HG3 := Lib.hid (below_next HG.out (Nat.le_refl _) hbA)
          have HRY := Lib.hid (RdK.below hf3 hbA)
          have HRX := Lib.hid (HR.out.below (below_next HB2.out (Nat.le_refl _) hbA))
          obtain ⟨qj, hqj⟩ : ∃ b, q j k = b := ⟨_, rfl⟩
          have HQV := Lib.hid hqj
          rw [hqj] at HQJ
          have HYL : Hid (yf.length = yn) := hf1
          clear hbA hf1 hf2 hf3 hqj
          go_wp2_with fail
          have hxk : RdQ (wr.alloc (.cells #[.int .i64 yi, .int .i64 yr, .slice yA yn yc] 28)) xA xf := by
            have := (HRX.out.2 _ (List.getElem_mem hk')).2.2
            rw [HX.out] at this
            exact this
          refine (above_at ⟨yi, yr, yA, yn, yc, yf⟩ ⟨xi, xr, xA, xn, xc, xf⟩ HYL.out hsy.1 hsy.2 HXA.out HXP.out.1 HXP.out.2 _ HRY.out hxk qj HQJ.out).mono ?_
          rintro e w7 ⟨rfl, hb7⟩
          have HG4 := Lib.hid (below_next HG3.out (by have := HG3.out.size; omega) hb7)
          clear hb7 hxk HRX HRY HG3 x0 x1 x2 hlx c0 c1 c2 hg
          cases qj with
          | true =>
            have HT : Hid (Po.topsTo q id n (k + 1) = Po.topsTo q id n k) := Po.topsTo_no (Po.top_no hjn HQV.out)
            have HB3 := Lib.hid (below_next HB1.out (Nat.le_refl _) HG4.out)
            have HO3 : Hid (OwnZ layI w7 w.heap.size (.slice B m d) (Po.topsTo q id n (k + 1))) := by rw [HT.out]; exact OwnZ.below HO1.out HG4.out
            have HM3 : Hid ((Po.topsTo q id n (k + 1)).length = m) := by rw [HT.out]; exact HM.out
            go_wp2_with fail
            go_roundg (n - (k + 1))
            case measure => omega
            case rel => exact ⟨k + 1, m, d, B, by omega, Nat.le_refl _, by go_num, rfl, hmd, by omega, HM3, HO3, HB3⟩
          | false =>
            have HL2 : Hid (∀ i, i < j + 1 → q i k = false) := fun i hi => by
              by_cases h : i = j
              · rw [h]; exact HQV.out
              · exact HL.out i (by omega)
            go_wp2_with fail
            go_roundg gk
            case measure => omega
            case rel => exact ⟨j + 1, by omega, by go_num, HG4, HL2⟩
    · obtain rfl : k = n := by omega
      go_wp2_with fail
      try rw [Exit.noGoto_ret]
      go_ret
      exact ⟨B, m, d, rfl, HM.out, hmd, rdz_own HO.out, HB.out⟩
end Go.Proofs.Ytckabmlilbkmbaa
namespace Go.Proofs.Ytckabmlilbkmbaa
open Go.RowKit Go.ChangeShapes Go.WideShapes Go.Deep Go.Sort Spans Tb
/-- Unlike Ids, and few. -/
def Once (es : List Ex) (n : Nat) : Prop := (∀ i k, i < n → k < n → idAt es i = idAt es k → i = k) ∧ n ≤ 24
theorem ent_id {es : List Ex} {n i : Nat} (hn : es.length = n) (hi : i < n) {w : World} {g off : Nat} (hr : RdEn w (some ⟨g, off, none⟩) es) : g < w.heap.size ∧ w.cell? ⟨g, off + i * 3, none⟩ = some (.int .i64 (idAt es i)) := by
  have hi' : i < es.length := by omega
  obtain ⟨g', off', e0, hg, d0, _⟩ := RdEn.at3 hr hi'
  injection e0 with e0
  injection e0 with e1 e2
  subst e1; subst e2
  exact ⟨hg, by rw [idAt_is hi']; exact d0⟩
theorem ent_addr {es : List Ex} {w : World} {A : Option Addr} (hr : RdEn w A es) (h : 0 < es.length) : ∃ g off, A = some ⟨g, off, none⟩ := by
  obtain ⟨g, off, e, _⟩ := RdEn.at3 hr h
  exact ⟨g, off, e⟩
set_option maxRecDepth 100000 in
set_option maxHeartbeats 4000000 in
theorem once_at (A : Option Addr) (es : List Ex) (n c : Nat) (hn : es.length = n) (hm : n ≤ 100000) (w : World) (hr : RdEn w A es) (q : Bool) (hq : q = true ↔ Once es n) :
    Calls Try.prog 11 #[.slice A n c] w fun e w' => e = .returned (.bool q) ∧ Below w.heap.size w w' := by
  have HN := Lib.hid hn
  have HR := Lib.hid hr
  have HQ := Lib.hid hq
  clear hn hr hq
  go_enter Try.func11, Try.ntmps11
  go_wp2_with fail
  go_loopg [3] n (fun gg s3 wr => ∃ i : Nat, i ≤ n ∧ n - i ≤ gg ∧ s3 = .int .i64 (i : Int) ∧ Hid (Below w.heap.size w wr) ∧ Hid (∀ a b, a < i → b < i → idAt es a = idAt es b → a = b))
  case atStart => exact ⟨0, Nat.zero_le _, by omega, rfl, Below.refl _ _, fun a b h => by omega⟩
  case round =>
    obtain ⟨i, hi, hgg, rfl, HB, HA⟩ := hrel
    by_cases hlt : i < n
    · have w5 : (i : Int) < (n : Int) := by omega
      obtain ⟨g, off, rfl⟩ := ent_addr HR.out (by rw [HN.out]; omega)
      go_wp2_with fail
      go_loopg [4] i (fun g2 s4 wy => ∃ k : Nat, k + g2 = i ∧ s4 = .int .i64 (k : Int) ∧ Hid (Below w.heap.size w wy) ∧ Hid (∀ b, b < k → idAt es b ≠ idAt es i))
      case atStart => exact ⟨0, by omega, rfl, HB, fun b h => by omega⟩
      case round =>
        clear HB
        obtain ⟨k, hkg, rfl, HB, HL⟩ := hrel
        cases gk with
        | zero =>
          obtain rfl : k = i := by omega
          have HA2 : Hid (∀ a b, a < k + 1 → b < k + 1 → idAt es a = idAt es b → a = b) := fun a b ha hb e => by
            by_cases h1 : a = k
            · by_cases h2 : b = k
              · omega
              · rw [h1] at e
                exact absurd e.symm (HL.out b (by omega))
            · by_cases h2 : b = k
              · rw [h2] at e
                exact absurd e (HL.out a (by omega))
              · exact HA.out a b (by omega) (by omega) e
          go_wp2_with fail
          go_roundg (n - (k + 1))
          case measure => omega
          case rel => exact ⟨k + 1, by omega, Nat.le_refl _, by go_num, HB, HA2⟩
        | succ gk =>
          have hkn : k < n := by omega
          have w6 : (k : Int) < (n : Int) := by omega
          have w7 : (k : Int) < (i : Int) := by omega
          obtain ⟨xi, hxi⟩ : ∃ x, idAt es i = x := ⟨_, rfl⟩
          obtain ⟨xk, hxk⟩ : ∃ x, idAt es k = x := ⟨_, rfl⟩
          have c0 := gx_cell ((HB.out.cell (p := ⟨g, off + i * 3, none⟩) (ent_id HN.out hlt HR.out).1).trans (ent_id HN.out hlt HR.out).2)
          have c1 := gx_cell ((HB.out.cell (p := ⟨g, off + k * 3, none⟩) (ent_id HN.out hkn HR.out).1).trans (ent_id HN.out hkn HR.out).2)
          have HXI := Lib.hid hxi
          have HXK := Lib.hid hxk
          rw [hxi] at c0
          rw [hxk] at c1
          clear hxi hxk
          by_cases he : xi = xk
          · have HF : Hid (false = q) := by
              cases q with
              | false => rfl
              | true =>
                have := (HQ.out.1 rfl).1 i k hlt hkn (by rw [HXI.out, HXK.out]; exact he)
                omega
            have hd : (xi == xk) = true := beq_iff_eq.2 he
            clear he
            go_wp2_with fail
            (refine qb_region mixedT (by kernel_rfl) ?_; (repeat (refine hq_step (fun K hK => ?_); go_simp; first | (refine hK _ ?_; clear hK K) | (apply Exists.intro; refine ⟨fun _ => ?_, hK _ ?_⟩; (fail); clear hK K))); refine hq_nil ?_; intro _ hw'; obtain ⟨⟨nq, osq⟩, hw''⟩ := hw'; subst hw'')
            have HB2 := Lib.hid (below_next HB.out (Nat.le_refl _) (below_gx wr nq osq))
            go_wp2_with fail
            go_ret
            exact ⟨ret_b HF.out, HB2.out⟩
          · have hd : (xi == xk) = false := beq_eq_false_iff_ne.2 he
            have HL2 : Hid (∀ b, b < k + 1 → idAt es b ≠ idAt es i) := fun b hb => by
              by_cases e : b = k
              · rw [e, HXI.out, HXK.out]; exact fun h => he h.symm
              · exact HL.out b (by omega)
            clear he
            go_wp2_with fail
            (refine qb_region mixedT (by kernel_rfl) ?_; (repeat (refine hq_step (fun K hK => ?_); go_simp; first | (refine hK _ ?_; clear hK K) | (apply Exists.intro; refine ⟨fun _ => ?_, hK _ ?_⟩; (fail); clear hK K))); refine hq_nil ?_; intro _ hw'; obtain ⟨⟨nq, osq⟩, hw''⟩ := hw'; subst hw'')
            have HB2 := Lib.hid (below_next HB.out (Nat.le_refl _) (below_gx wr nq osq))
            clear c0 c1
            go_wp2_with fail
            go_roundg gk
            case measure => omega
            case rel => exact ⟨k + 1, by omega, by go_num, HB2, HL2⟩
    · have hin : i = n := by omega
      have HF : Hid (decide ((n : Int) ≤ 24) = q) := by
        show _ = _
        rw [Bool.eq_iff_iff, HQ.out, decide_eq_true_iff]
        constructor
        · intro h; exact ⟨by rw [← hin]; exact HA.out, by omega⟩
        · rintro ⟨_, h⟩; omega
      clear hin
      go_wp2_with fail
      go_ret
      exact ⟨ret_b HF.out, HB.out⟩
end Go.Proofs.Ytckabmlilbkmbaa
