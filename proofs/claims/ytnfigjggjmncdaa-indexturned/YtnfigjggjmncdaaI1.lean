/- Contracts of the program and of the document (IxMath, IxMap, IxRow, IxEq), each used further on. -/
import Derived.Maps.RangeWalk
import Derived.Maps.OwnSet
import Derived.DeepKeys4
import Derived.WideKeyEntry
import Derived.ChangeMaps5
import Derived.Laws.StructEq
import Derived.Test.YtnfigjggjmncdaaP1
import Derived.Test.YtnfigjggjmncdaaP3
namespace Go.Proofs.Ytnfigjggjmncdaa
namespace Ix
section
variable {α : Type}
theorem snoc_ind {P : List α → Prop} (h0 : P []) (h1 : ∀ l p, P l → P (l ++ [p])) (l : List α) : P l := by
  have : ∀ n (l : List α), l.length = n → P l := by
    intro n
    induction n with
    | zero => intro l hl; rw [List.length_eq_zero_iff.1 hl]; exact h0
    | succ n ih =>
      intro l hl
      rcases List.eq_nil_or_concat l with rfl | ⟨m, p, rfl⟩
      · exact h0
      · rw [List.concat_eq_append] at *
        exact h1 m p (ih m (by simpa using hl))
  exact this _ l rfl
/-- Predicates, each with the place of the entry that asks it. -/
def prs (F : List (List α)) : List (α × Nat) := F.zipIdx.flatMap fun x => x.1.map fun p => (p, x.2)
theorem prs_snoc (F : List (List α)) (f : List α) : prs (F ++ [f]) = prs F ++ f.map fun p => (p, F.length) := by
  unfold prs
  rw [List.zipIdx_append, List.flatMap_append]
  simp
theorem prs_fst (F : List (List α)) : (prs F).map (·.1) = F.flatten := by
  refine snoc_ind (P := fun F => (prs F).map (·.1) = F.flatten) rfl (fun F f ih => ?_) F
  rw [prs_snoc, List.map_append, ih, List.flatten_append, List.map_map]
  simp [Function.comp_def]
theorem prs_lt (F : List (List α)) : ∀ x ∈ prs F, x.2 < F.length := by
  refine snoc_ind (P := fun F : List (List α) => ∀ x ∈ prs F, x.2 < F.length) (fun x hx => by cases hx) (fun F f ih x hx => ?_) F
  rw [prs_snoc] at hx
  rw [List.length_append]
  rcases List.mem_append.1 hx with h | h
  · have := ih x h; omega
  · obtain ⟨p, _, rfl⟩ := List.mem_map.1 h
    simp
theorem prs_len (F : List (List α)) : (prs F).length = F.flatten.length := by rw [← prs_fst, List.length_map]
/-- What stands ahead of predicate j of entry k. -/
def upTo (F : List (List α)) (k j : Nat) : List (α × Nat) := prs (F.take k) ++ ((F[k]?.getD []).take j).map fun p => (p, k)
theorem upTo_zero (F : List (List α)) (k : Nat) : upTo F k 0 = prs (F.take k) := by simp [upTo]
theorem upTo_nil (F : List (List α)) : upTo F 0 0 = [] := by simp [upTo, prs]
theorem upTo_step {F : List (List α)} {k j : Nat} {f : List α} (hf : F[k]? = some f) (hj : j < f.length) : upTo F k (j + 1) = upTo F k j ++ [(f[j], k)] := by
  unfold upTo
  rw [hf, Option.getD_some, List.take_succ_eq_append_getElem hj, List.map_append, List.append_assoc]
  rfl
theorem upTo_row {F : List (List α)} {k : Nat} {f : List α} (hf : F[k]? = some f) : upTo F k f.length = upTo F (k + 1) 0 := by
  have hk : k < F.length := (List.getElem?_eq_some_iff.1 hf).1
  have e : F[k] = f := by rw [List.getElem?_eq_getElem hk] at hf; exact Option.some.inj hf
  rw [upTo_zero, List.take_succ_eq_append_getElem hk, e, prs_snoc, List.length_take, Nat.min_eq_left (Nat.le_of_lt hk)]
  unfold upTo
  rw [hf, Option.getD_some, List.take_of_length_le (Nat.le_refl _)]
theorem upTo_all (F : List (List α)) : upTo F F.length 0 = prs F := by rw [upTo_zero, List.take_of_length_le (Nat.le_refl _)]
theorem upTo_len {F : List (List α)} {k j : Nat} (hk : k ≤ F.length) : (upTo F k j).length ≤ F.flatten.length := by
  by_cases h : k < F.length
  · have e : F[k]? = some F[k] := List.getElem?_eq_getElem h
    have h1 : (upTo F k j).length ≤ (upTo F (k + 1) 0).length := by
      rw [← upTo_row e]
      unfold upTo
      rw [e, Option.getD_some]
      simp only [List.length_append, List.length_map, List.length_take]
      omega
    have h2 : (upTo F (k + 1) 0).length ≤ F.flatten.length := by
      rw [upTo_zero, prs_len]
      conv => rhs; rw [← List.take_append_drop (k + 1) F]
      rw [List.flatten_append, List.length_append]; omega
    omega
  · have e : F[k]? = none := List.getElem?_eq_none (by omega)
    unfold upTo
    rw [e]
    simp only [Option.getD_none, List.take_nil, List.map_nil, List.append_nil]
    rw [prs_len, List.take_of_length_le (by omega)]
    exact Nat.le_refl _
/-- How many predicates of entry k hold, of those that are done. -/
def cnt (mt dn : α → Bool) (ps : List (α × Nat)) (k : Nat) : Nat := ps.countP fun x => decide (x.2 = k) && (mt x.1 && dn x.1)
theorem cnt_none {mt dn : α → Bool} {ps : List (α × Nat)} (h : ∀ x ∈ ps, dn x.1 = false) (k : Nat) : cnt mt dn ps k = 0 := by
  unfold cnt
  rw [List.countP_eq_zero]
  intro x hx
  simp [h x hx]
theorem cnt_same {mt dn dn' : α → Bool} {ps : List (α × Nat)} (h : ∀ x ∈ ps, (mt x.1 && dn x.1) = (mt x.1 && dn' x.1)) (k : Nat) : cnt mt dn' ps k = cnt mt dn ps k := by
  unfold cnt
  refine List.countP_congr fun x hx => ?_
  rw [h x hx]
theorem cnt_all {mt dn : α → Bool} {F : List (List α)} (h : ∀ x ∈ prs F, dn x.1 = true) {k : Nat} {f : List α} (hf : F[k]? = some f) : cnt mt dn (prs F) k = f.countP mt := by
  have h1 : cnt mt dn (prs F) k = (prs F).countP fun x => decide (x.2 = k) && mt x.1 := by
    unfold cnt
    refine List.countP_congr fun x hx => ?_
    rw [h x hx, Bool.and_true]
  rw [h1]
  clear h h1
  refine snoc_ind (P := fun F => ∀ f : List α, F[k]? = some f → ((prs F).countP fun x => decide (x.2 = k) && mt x.1) = f.countP mt) (fun f hf => by simp at hf) (fun F g ih f hf => ?_) F f hf
  rw [prs_snoc, List.countP_append, List.countP_map]
  by_cases hk : k < F.length
  · rw [List.getElem?_append_left hk] at hf
    rw [ih f hf]
    have : (List.countP ((fun x : α × Nat => decide (x.2 = k) && mt x.1) ∘ fun p => (p, F.length)) g) = 0 := by
      rw [List.countP_eq_zero]
      intro p _
      have : ¬ F.length = k := by omega
      simp [this]
    omega
  · have hl : k = F.length := by
      have := (List.getElem?_eq_some_iff.1 hf).1
      simp at this; omega
    subst hl
    rw [List.getElem?_append_right (Nat.le_refl _)] at hf
    simp at hf
    subst hf
    have : (List.countP (fun x : α × Nat => decide (x.2 = F.length) && mt x.1) (prs F)) = 0 := by
      rw [List.countP_eq_zero]
      intro x hx
      have := prs_lt F x hx
      have : ¬ x.2 = F.length := by omega
      simp [this]
    rw [this, Nat.zero_add]
    refine List.countP_congr fun p _ => ?_
    simp
theorem all_cnt {mt : α → Bool} {f : List α} : f.countP mt = f.length ↔ f.all mt = true := by
  rw [List.countP_eq_length, List.all_eq_true]
end
/-- The row of counts. -/
def row (n : Nat) (c : Nat → Nat) : List Int := (List.range n).map fun k => (c k : Int)
theorem row_zero (n : Nat) : row n (fun _ => 0) = List.replicate n 0 := by
  unfold row
  refine List.ext_getElem (by simp) fun i h1 h2 => by simp
theorem row_set {n : Nat} {c : Nat → Nat} {k : Nat} : (row n c).set k ((c k + 1 : Nat) : Int) = row n fun i => if i = k then c i + 1 else c i := by
  refine List.ext_getElem (by simp [row]) fun i h1 h2 => ?_
  rw [List.getElem_set]
  simp only [row, List.getElem_map, List.getElem_range]
  by_cases e : k = i
  · subst e; simp
  · have e2 : ¬ i = k := fun h => e h.symm
    rw [if_neg e, if_neg e2]
theorem row_congr {n : Nat} {c d : Nat → Nat} (h : ∀ k, k < n → c k = d k) : row n c = row n d := by
  unfold row
  exact List.map_congr_left fun k hk => by rw [h k (List.mem_range.1 hk)]
section
variable {α : Type} [DecidableEq α]
/-- Where a predicate is asked, each time that it is. -/
def plc (ps : List (α × Nat)) (p : α) : List Int := (ps.filter fun x => decide (x.1 = p)).map fun x => (x.2 : Int)
theorem plc_same (ps : List (α × Nat)) (p : α) (k : Nat) : plc (ps ++ [(p, k)]) p = plc ps p ++ [(k : Int)] := by simp [plc]
theorem plc_other {ps : List (α × Nat)} {p q : α} {k : Nat} (h : q ≠ p) : plc (ps ++ [(q, k)]) p = plc ps p := by simp [plc, h]
theorem plc_len (ps : List (α × Nat)) (p : α) : (plc ps p).length ≤ ps.length := by
  unfold plc; rw [List.length_map]; exact List.length_filter_le _ _
theorem plc_none {ps : List (α × Nat)} {p : α} (h : p ∉ ps.map (·.1)) : plc ps p = [] := by
  unfold plc
  rw [List.filter_eq_nil_iff.2, List.map_nil]
  intro x hx e
  simp at e
  exact h (List.mem_map.2 ⟨x, hx, e⟩)
theorem plc_lt {ps : List (α × Nat)} {p : α} {n : Nat} (h : ∀ x ∈ ps, x.2 < n) : ∀ z ∈ plc ps p, ∃ k : Nat, z = (k : Int) ∧ k < n := by
  intro z hz
  unfold plc at hz
  obtain ⟨x, hx, rfl⟩ := List.mem_map.1 hz
  exact ⟨x.2, rfl, h x (List.mem_filter.1 hx).1⟩
/-- Unlike ones, in the order in which they come first. -/
def uq (l : List α) : List α := l.foldl (fun a p => if p ∈ a then a else a ++ [p]) []
theorem uq_nil : uq ([] : List α) = [] := rfl
theorem uq_snoc (l : List α) (p : α) : uq (l ++ [p]) = if p ∈ uq l then uq l else uq l ++ [p] := by unfold uq; rw [List.foldl_append]; rfl
theorem mem_uq (l : List α) : ∀ p, p ∈ uq l ↔ p ∈ l := by
  refine snoc_ind (P := fun l => ∀ p, p ∈ uq l ↔ p ∈ l) (fun p => by simp [uq_nil]) (fun l q ih p => ?_) l
  rw [uq_snoc]
  split
  · rename_i h
    rw [ih p, List.mem_append]
    refine ⟨.inl, fun h2 => h2.elim id fun e => ?_⟩
    simp at e; subst e
    exact (ih p).1 h
  · simp [ih p]
theorem nodup_uq (l : List α) : (uq l).Nodup := by
  refine snoc_ind (P := fun l => (uq l).Nodup) (by simp [uq_nil]) (fun l q ih => ?_) l
  rw [uq_snoc]
  split
  · exact ih
  · rename_i h
    rw [List.nodup_append]
    refine ⟨ih, by simp, fun a ha b hb => ?_⟩
    simp at hb; subst hb
    intro e; subst e; exact h ha
theorem nodup_len : ∀ {l m : List α}, l.Nodup → (∀ p ∈ l, p ∈ m) → l.length ≤ m.length
  | [], m, _, _ => Nat.zero_le _
  | a :: r, m, hn, hs => by
    have ha : a ∈ m := hs a (by simp)
    have h1 := nodup_len (l := r) (m := m.erase a) (List.nodup_cons.1 hn).2 fun p hp => by
      refine (List.mem_erase_of_ne fun e => ?_).2 (hs p (by simp [hp]))
      subst e
      exact (List.nodup_cons.1 hn).1 hp
    rw [List.length_erase_of_mem ha] at h1
    have := List.length_pos_of_mem ha
    simp only [List.length_cons]
    omega
theorem uq_le {l m : List α} (h : ∀ p ∈ l, p ∈ m) : (uq l).length ≤ (uq m).length :=
  nodup_len (nodup_uq l) fun p hp => (mem_uq m p).2 (h p ((mem_uq l p).1 hp))
theorem uq_eq {l m : List α} (h : ∀ p, p ∈ l ↔ p ∈ m) : (uq l).length = (uq m).length :=
  Nat.le_antisymm (uq_le fun p hp => (h p).1 hp) (uq_le fun p hp => (h p).2 hp)
theorem uq_app (l m : List α) : (uq (l ++ m)).length ≤ (uq l).length + (uq m).length := by
  have := nodup_len (nodup_uq (l ++ m)) (m := uq l ++ uq m) fun p hp => by
    have := (mem_uq _ p).1 hp
    rcases List.mem_append.1 this with h | h
    · exact List.mem_append.2 (.inl ((mem_uq l p).2 h))
    · exact List.mem_append.2 (.inr ((mem_uq m p).2 h))
  simpa using this
theorem uq_len (l : List α) : (uq l).length ≤ l.length := nodup_len (nodup_uq l) fun p hp => (mem_uq l p).1 hp
theorem plc_count (p : α) (k : Nat) : ∀ ps : List (α × Nat), (plc ps p).count (k : Int) = ps.countP fun x => decide (x.2 = k) && decide (x.1 = p)
  | [] => rfl
  | x :: r => by
    have ih := plc_count p k r
    unfold plc at *
    rw [List.filter_cons, List.countP_cons]
    by_cases h : x.1 = p
    · simp only [h, decide_true, if_true, List.map_cons, List.count_cons, ih]
      by_cases h2 : x.2 = k <;> simp [h2]
      omega
    · simp only [h, decide_false, Bool.and_false, Bool.false_eq_true, if_false, ih, Nat.add_zero]
theorem cnt_step {mt dn dn' : α → Bool} {p : α} (hm : mt p = true) (hd : dn p = false) (hd' : dn' p = true) (k : Nat) : ∀ {ps : List (α × Nat)}, (∀ x ∈ ps, x.1 ≠ p → dn' x.1 = dn x.1) → cnt mt dn' ps k = cnt mt dn ps k + (plc ps p).count (k : Int) := by
  intro ps h
  rw [plc_count]
  unfold cnt
  induction ps with
  | nil => rfl
  | cons x r ih =>
    have ih := ih fun y hy => h y (by simp [hy])
    rw [List.countP_cons, List.countP_cons, List.countP_cons, ih]
    by_cases e : x.1 = p
    · rw [e, hm, hd, hd']
      simp
      omega
    · rw [h x (by simp) e]
      simp [e]
      omega
end
end Ix
end Go.Proofs.Ytnfigjggjmncdaa
namespace Go.Proofs.Ytnfigjggjmncdaa
open Go.RowKit Go.Maps Go.WideMaps Spans Op
/-- A predicate by value. -/
abbrev prV (p : Pr) : Value := .agg #[.string ⟨p.n.toArray⟩, .int .i64 p.o, .int .i64 p.k, .int .i64 p.i, .string ⟨p.t.toArray⟩]
/-- A predicate that may lie in memory. -/
def KOk (p : Pr) : Prop := (p.n.length ≤ 9223372036854775807 ∧ p.t.length ≤ 9223372036854775807) ∧ (-9223372036854775808 ≤ p.o ∧ p.o ≤ 9223372036854775807) ∧ (-9223372036854775808 ≤ p.k ∧ p.k ≤ 9223372036854775807) ∧ (-9223372036854775808 ≤ p.i ∧ p.i ≤ 9223372036854775807)
/-- What it reads as, as a key. -/
def KL (p : Pr) : Lit := .string (keyBytes [.string p.n, .int .i64 p.o, .int .i64 p.k, .int .i64 p.i, .string p.t])
theorem isKeyKL (p : Pr) : WideAt.IsKeyLit (KL p) := trivial
theorem laidOutX : laidOutB Try.prog = true := by kernel_rfl
theorem lawP : KeyLaw Try.prog 47 := deep_law_laid laidOutX (m := 3) (by omega) (of_decide_eq_true (by kernel_rfl)) (by kernel_rfl) (by kernel_rfl)
theorem keyedP : Keyed Try.prog 47 := Keyed.of_law lawP
theorem wf64 {i : Int} (h : -9223372036854775808 ≤ i ∧ i ≤ 9223372036854775807) : (Lit.int .i64 i).wf = true := by
  simp [Lit.wf, IntKind.min, IntKind.max, IntKind.signed, IntKind.bits]; omega
theorem keyLitsV (d : Nat) {k i : Int} {t : List UInt8} (hk : (Lit.int .i64 k).wf = true) (hi : (Lit.int .i64 i).wf = true) (ht : t.length ≤ maxLen) :
    Try.prog.keyLits (d + 2) 45 [.int .i64 k, .int .i64 i, .string ⟨t.toArray⟩] = some [.int .i64 k, .int .i64 i, .string t] := by
  have hs : (⟨t.toArray⟩ : ByteArray).size ≤ maxLen := by simpa [ByteArray.size] using ht
  have c1 : Try.prog.cellsOf 45 = 3 := by kernel_rfl
  have c2 : Try.prog.cellsOf 3 = 1 := by kernel_rfl
  have c3 : Try.prog.cellsOf 9 = 1 := by kernel_rfl
  simp [Program.keyLits, Try.underlying45, Try.underlying3, Try.underlying9, c1, c2, c3, hk, hi, hs]
theorem keyP {p : Pr} (h : KOk p) : keyOf Try.prog 47 (prV p) = some (KL p) := by
  obtain ⟨⟨h1, h2⟩, h3, h4, h5⟩ := h
  obtain ⟨pn, po, pk, pi, pt⟩ := p
  dsimp only at *
  have hs : (⟨pn.toArray⟩ : ByteArray).size ≤ maxLen := by rw [maxLen_num]; simpa [ByteArray.size] using h1
  have ht : pt.length ≤ maxLen := by rw [maxLen_num]; exact h2
  have c0 : Try.prog.cellsOf 47 = 5 := by kernel_rfl
  have c1 : Try.prog.cellsOf 45 = 3 := by kernel_rfl
  have c2 : Try.prog.cellsOf 3 = 1 := by kernel_rfl
  have c3 : Try.prog.cellsOf 9 = 1 := by kernel_rfl
  obtain ⟨d, hd⟩ : ∃ d, Try.prog.types.size + 1 = d + 2 + 1 := ⟨Try.prog.types.size - 2, by have : 2 ≤ Try.prog.types.size := of_decide_eq_true (by kernel_rfl); omega⟩
  have hq : (Lit.int .i64 po).wf = true := wf64 h3
  have hv := keyLitsV d (wf64 h4) (wf64 h5) ht
  have hl : Try.prog.keyLits (d + 2 + 1) 47 [.string ⟨pn.toArray⟩, .int .i64 po, .int .i64 pk, .int .i64 pi, .string ⟨pt.toArray⟩] = some [.string pn, .int .i64 po, .int .i64 pk, .int .i64 pi, .string pt] := by
    have e1 : Try.prog.keyLits (d + 2) 9 [.string ⟨pn.toArray⟩] = some [.string pn] := by simp [Program.keyLits, Try.underlying9, hs]
    have e2 : Try.prog.keyLits (d + 2) 3 [.int .i64 po] = some [.int .i64 po] := by simp [Program.keyLits, Try.underlying3, hq]
    rw [Program.keyLits.eq_def]
    simp [Try.underlying47, c0, c1, c2, c3, e1, e2, hv]
  have kt : Try.prog.keyType 47 = true := by kernel_rfl
  unfold keyOf
  rw [hd]
  simp [Try.underlying47, Value.formed, Value.cells, c0, kt, hl, KL]
theorem kl_inj {p q : Pr} (hp : KOk p) (hq : KOk q) (h : KL p = KL q) : p = q := by
  have := lawP.inj (keyP hp) (h ▸ keyP hq)
  obtain ⟨⟩ := p; obtain ⟨⟩ := q
  simpa using this
theorem ba_ex (s : ByteArray) (h : s.size ≤ maxLen) : ∃ t : List UInt8, s = ⟨t.toArray⟩ ∧ t.length ≤ maxLen := by
  obtain ⟨⟨t⟩⟩ := s
  exact ⟨t, rfl, h⟩
theorem invS {d : Nat} {cs : List Value} {L : List Lit} (h : Try.prog.keyLits (d + 1) 9 cs = some L) : ∃ t : List UInt8, cs = [.string ⟨t.toArray⟩] ∧ t.length ≤ maxLen := by
  rw [Program.keyLits.eq_def] at h
  simp only [Try.underlying9] at h
  split at h
  all_goals first | (simp at h; done) | skip
  all_goals simp_all
  exact ba_ex _ h.1
theorem invI {d : Nat} {cs : List Value} {L : List Lit} (h : Try.prog.keyLits (d + 1) 3 cs = some L) : ∃ i : Int, cs = [.int .i64 i] ∧ (Lit.int .i64 i).wf = true := by
  rw [Program.keyLits.eq_def] at h
  simp only [Try.underlying3] at h
  split at h
  all_goals first | (simp at h; done) | skip
  all_goals simp_all
  all_goals skip
theorem key_inv {key : Value} {kl : Lit} (h : keyOf Try.prog 47 key = some kl) : ∃ p, key = prV p ∧ KOk p := by
  obtain ⟨xs, L, rfl, hl, _⟩ := keyOf_top (by kernel_rfl) h
  obtain ⟨xs⟩ := xs
  have c0 : Try.prog.cellsOf 47 = 5 := by kernel_rfl
  have c1 : Try.prog.cellsOf 45 = 3 := by kernel_rfl
  have c2 : Try.prog.cellsOf 3 = 1 := by kernel_rfl
  have c3 : Try.prog.cellsOf 9 = 1 := by kernel_rfl
  obtain ⟨d, hd⟩ : ∃ d, Try.prog.types.size + 1 = d + 2 + 1 := ⟨Try.prog.types.size - 2, by have : 2 ≤ Try.prog.types.size := of_decide_eq_true (by kernel_rfl); omega⟩
  rw [hd, Program.keyLits.eq_def] at hl
  simp [Try.underlying47, c0, c1, c2, c3] at hl
  obtain ⟨hlen, hl⟩ := hl
  obtain ⟨L0, g0, hl⟩ := Option.bind_eq_some_iff.1 hl
  simp only [Function.comp_def, Option.map_eq_some_iff] at hl
  obtain ⟨_, hl, _⟩ := hl
  obtain ⟨_, hl, _⟩ := Option.bind_eq_some_iff.1 hl
  obtain ⟨L1, g1, hl⟩ := Option.bind_eq_some_iff.1 hl
  obtain ⟨_, hl, _⟩ := Option.bind_eq_some_iff.1 hl
  obtain ⟨L2, g2, _⟩ := Option.bind_eq_some_iff.1 hl
  rw [Program.keyLits.eq_def] at g2
  simp [Try.underlying45, c1, c2, c3] at g2
  obtain ⟨_, g2⟩ := g2
  obtain ⟨L3, g3, hl⟩ := Option.bind_eq_some_iff.1 g2
  simp only [Function.comp_def, Option.map_eq_some_iff] at hl
  obtain ⟨_, hl, _⟩ := hl
  obtain ⟨_, hl, _⟩ := Option.bind_eq_some_iff.1 hl
  obtain ⟨L4, g4, hl⟩ := Option.bind_eq_some_iff.1 hl
  obtain ⟨_, hl, _⟩ := Option.bind_eq_some_iff.1 hl
  obtain ⟨L5, g5, _⟩ := Option.bind_eq_some_iff.1 hl
  match xs, hlen with
  | [a0, a1, a2, a3, a4], _ =>
    obtain ⟨t0, e0, l0⟩ := invS g0
    obtain ⟨i1, e1, l1⟩ := invI g1
    obtain ⟨i2, e2, l2⟩ := invI g3
    obtain ⟨i3, e3, l3⟩ := invI g4
    obtain ⟨t4, e4, l4⟩ := invS g5
    simp at e0 e1 e2 e3 e4
    subst e0 e1 e2 e3 e4
    rw [maxLen_num] at l0 l4
    exact ⟨⟨t0, i1, i2, i3, t4⟩, rfl, ⟨l0, l4⟩, bounds_i64 l1, bounds_i64 l2, bounds_i64 l3⟩
abbrev slV (s : Sl) : Value := .slice s.A s.n s.c
open Classical in
/-- How a row in a map is read: by where it lies. -/
noncomputable def elemS (v : Value) : Option (DataW Sl × List MemPlace) := if h : ∃ r, v = slV r then some (.held (Classical.choose h), []) else none
theorem slV_inj {r s : Sl} (h : slV r = slV s) : r = s := by
  cases r; cases s
  simpa [slV] using h
theorem elemS_mk (r : Sl) : elemS (slV r) = some (.held r, []) := by
  have h : ∃ s, slV r = slV s := ⟨r, rfl⟩
  unfold elemS
  rw [dif_pos h, ← slV_inj (Classical.choose_spec h)]
theorem elemS_inv {v : Value} {y : DataW Sl × List MemPlace} (h : elemS v = some y) : ∃ r, v = slV r ∧ y = (.held r, []) := by
  unfold elemS at h
  by_cases hr : ∃ r, v = slV r
  · rw [dif_pos hr] at h
    injection h with h
    exact ⟨_, Classical.choose_spec hr, h.symm⟩
  · rw [dif_neg hr] at h; cases h
theorem zeroSl (w : World) : (zeroValue 32).run Try.prog w = .ok (slV ⟨none, 0, 0⟩) w := by kernel_rfl
abbrev OwnX (w : World) (b m : Nat) (D : DataW Sl) : Prop := w.ownsMap Try.prog 47 elemS b m D
theorem OwnX.below {w w' : World} {b m : Nat} {D : DataW Sl} (h : OwnX w b m D) (hb : Below w.heap.size w w') : OwnX w' b m D := by
  obtain ⟨es, clock, h1, h2⟩ := h
  exact ⟨es, clock, (hb.block b (Array.getElem?_eq_some_iff.1 h1).1).trans h1, h2⟩
theorem OwnX.same {w w' : World} {b m : Nat} {D : DataW Sl} (h : OwnX w b m D) (hb : w'.heap[b]? = w.heap[b]?) : OwnX w' b m D := by
  obtain ⟨es, clock, h1, h2⟩ := h
  exact ⟨es, clock, hb.trans h1, h2⟩
/-- 'm[p] = append(m[p], ..)': the entry, and what is stored behind. -/
theorem entry_x {w : World} {b m : Nat} {D : DataW Sl} {p : Pr} (h : OwnX w b m D) (hk : KOk p) (hm : m < maxLen) :
    ∃ (s : Sl) (st : Int) (wE : World), (Instr.mapEntry 51 (.map (some b)) (prV p)).run Try.prog w = .ok (.tuple #[slV s, .int .i64 st]) wE ∧ w.grownBy wE (some b) ∧ wE.heap.size = w.heap.size ∧
      ((Maps.has D (KL p) = true ∧ ∀ z, D.atKey (KL p) z = .held s) ∨ (Maps.has D (KL p) = false ∧ s = ⟨none, 0, 0⟩)) ∧
      ∀ (w2 : World) (s' : Sl), w2.heap[b]? = wE.heap[b]? → ∃ w3, (Instr.entryStore 51 (.map (some b)) (.int .i64 st) (slV s')).run Try.prog w2 = .ok () w3 ∧ OwnX w3 b (m + 1) (D.put (KL p) (.held s')) ∧ w2.grownBy w3 (some b) ∧ w3.heap.size = w2.heap.size := by
  have h0 := h
  obtain ⟨es, clock, hb, F, hs, hD⟩ := h
  obtain ⟨v0, st, es1, clock1, hrun, hv, hst⟩ := WideElems.entry_then_store lawP Try.underlying51 zeroSl hb F (keyP hk)
  have gr : ∀ {w : World} {e1 e2 : Array MapEntry} {c1 c2 : Nat}, w.heap[b]? = some (.map e1 c1) → w.grownBy (ChangeMaps.setBlock w b (.map e2 c2)) (some b) := fun hb => ⟨rfl, rfl, rfl, by simp [ChangeMaps.setBlock], fun i _ hi => ChangeMaps.heap_setBlock_other hb _ (fun e => hi (by rw [e]))⟩
  have hlook := Maps.fit_look false keyedP Try.underlying51 (zeroSl w) hb F (keyP hk)
  rw [← hD] at hlook
  have hval : ∃ s : Sl, v0 = slV s ∧ ((Maps.has D (KL p) = true ∧ ∀ z, D.atKey (KL p) z = .held s) ∨ (Maps.has D (KL p) = false ∧ s = ⟨none, 0, 0⟩)) := by
    rcases hv with ⟨e0, he0, hk0, rfl⟩ | ⟨hno, rfl⟩
    · rcases hlook with ⟨_, hno, _⟩ | ⟨e1, y, he1, hk1, _, hy, hat, _⟩
      · exact absurd hk0 (hno e0 he0)
      · have e : e0 = e1 := entry_eq_of_key ((MapKept.stamped_iff es clock).1 F.stamped).2.2 he0 he1 (hk0.trans hk1.symm)
        subst e
        obtain ⟨s, e2, e3⟩ := elemS_inv hy
        subst e3
        exact ⟨s, e2, .inl ⟨has_true_of_atKey hat, hat⟩⟩
    · rcases hlook with ⟨_, _, hat⟩ | ⟨e1, y, he1, hk1, _⟩
      · exact ⟨_, rfl, .inr ⟨has_false_of_atKey hat, rfl⟩⟩
      · exact absurd hk1 (hno e1 he1)
  obtain ⟨s, rfl, hs2⟩ := hval
  refine ⟨s, st, _, hrun, gr hb, by simp [ChangeMaps.setBlock], hs2, fun w2 s' h2 => ?_⟩
  rw [ChangeMaps.heap_setBlock_same hb] at h2
  obtain ⟨es', clock', hr1, hr2⟩ := hst w2 (slV s') h2
  obtain ⟨w', hu, hown, _⟩ := World.ownsMap.store h0 keyedP Try.underlying51 hm (keyP hk) (elemS_mk s')
  rw [hr2] at hu
  injection hu with _ hu
  subst hu
  refine ⟨_, hr1, OwnX.same hown ?_, gr h2, by simp [ChangeMaps.setBlock]⟩
  rw [ChangeMaps.heap_setBlock_same h2, ChangeMaps.heap_setBlock_same hb]
/-- What the map holds of predicates, each with the places at which it is asked. -/
structure Gx (w : World) (base : Nat) (D : DataW Sl) (ps : List (Pr × Nat)) (S : Pr → Sl) : Prop where
  tidy : Tidy D
  size : Maps.size D = (Ix.uq (ps.map (·.1))).length
  ok : ∀ x ∈ ps, KOk x.1
  has : ∀ p, KOk p → (Maps.has D (KL p) = true ↔ p ∈ ps.map (·.1))
  at_ : ∀ p ∈ ps.map (·.1), (∀ z, D.atKey (KL p) z = .held (S p)) ∧ OwnZ layI w base (slV (S p)) (Ix.plc ps p)
  apart : ∀ p ∈ ps.map (·.1), ∀ q ∈ ps.map (·.1), p ≠ q → (slV (S p)).ownBlock = none ∨ (slV (S p)).ownBlock ≠ (slV (S q)).ownBlock
theorem Gx.below {w w' : World} {base : Nat} {D : DataW Sl} {ps : List (Pr × Nat)} {S : Pr → Sl} (h : Gx w base D ps S) (hb : Below w.heap.size w w') : Gx w' base D ps S :=
  ⟨h.tidy, h.size, h.ok, h.has, fun p hp => ⟨(h.at_ p hp).1, OwnZ.below (h.at_ p hp).2 hb⟩, h.apart⟩
theorem Gx.kok {w : World} {base : Nat} {D : DataW Sl} {ps : List (Pr × Nat)} {S : Pr → Sl} (h : Gx w base D ps S) {p : Pr} (hp : p ∈ ps.map (·.1)) : KOk p := by
  obtain ⟨x, hx, rfl⟩ := List.mem_map.1 hp
  exact h.ok x hx
theorem Gx.nil (w : World) (base : Nat) (S : Pr → Sl) : Gx w base (.map []) [] S :=
  ⟨tidy_empty, rfl, fun x hx => (by cases hx), fun p _ => ⟨fun e => (by cases e), fun e => (by cases e)⟩, fun p hp => (by cases hp), fun p hp => (by cases hp)⟩
/-- What a look-up gives: the row at the key, apart from all others. -/
theorem Gx.look {w : World} {base : Nat} {D : DataW Sl} {ps : List (Pr × Nat)} {S : Pr → Sl} (h : Gx w base D ps S) {p : Pr} (hk : KOk p) {s : Sl} (hs : (Maps.has D (KL p) = true ∧ ∀ z, D.atKey (KL p) z = .held s) ∨ (Maps.has D (KL p) = false ∧ s = ⟨none, 0, 0⟩)) :
    OwnZ layI w base (slV s) (Ix.plc ps p) ∧ ∀ q ∈ ps.map (·.1), q ≠ p → (slV (S q)).ownBlock = none ∨ (slV (S q)).ownBlock ≠ (slV s).ownBlock := by
  rcases hs with ⟨hh, hat⟩ | ⟨hh, rfl⟩
  · have hp := (h.has p hk).1 hh
    have e := (hat .nil).symm.trans ((h.at_ p hp).1 .nil)
    injection e with e
    subst e
    exact ⟨(h.at_ p hp).2, fun q hq hne => h.apart q hq p hp hne⟩
  · have hp : p ∉ ps.map (·.1) := fun hp => by rw [(h.has p hk).2 hp] at hh; cases hh
    rw [Ix.plc_none hp]
    refine ⟨OwnZ.none_ _ _, fun q _ _ => ?_⟩
    cases (slV (S q)).ownBlock with
    | none => exact .inl rfl
    | some g => exact .inr (by simp [Value.ownBlock])
/-- One place more. -/
theorem Gx.snoc {w w1 : World} {base : Nat} {D : DataW Sl} {ps : List (Pr × Nat)} {S : Pr → Sl} (h : Gx w base D ps S) {p : Pr} {k : Nat} (hk : KOk p) {s s' : Sl} (hap : ∀ q ∈ ps.map (·.1), q ≠ p → (slV (S q)).ownBlock = none ∨ (slV (S q)).ownBlock ≠ (slV s).ownBlock)
    (hg : w.grownBy w1 (slV s).ownBlock) (ho : OwnZ layI w1 base (slV s') (Ix.plc ps p ++ [(k : Int)])) (hloc : (slV s').ownBlock = (slV s).ownBlock ∨ ∃ g, (slV s').ownBlock = some g ∧ w.heap.size ≤ g) :
    Gx w1 base (D.put (KL p) (.held s')) (ps ++ [(p, k)]) (fun q => if q = p then s' else S q) := by
  have hmem : ∀ q, q ∈ (ps ++ [(p, k)]).map (·.1) ↔ q ∈ ps.map (·.1) ∨ q = p := fun q => by simp
  have hap2 : ∀ q ∈ ps.map (·.1), q ≠ p → (slV (S q)).ownBlock = none ∨ (slV (S q)).ownBlock ≠ (slV s').ownBlock := fun q hq hne => by
    rcases hloc with e | ⟨g, e, hge⟩
    · rw [e]; exact hap q hq hne
    · cases hq' : (slV (S q)).ownBlock with
      | none => exact .inl rfl
      | some j =>
        refine .inr fun e2 => ?_
        have := ((h.at_ q hq).2.lt j hq').2
        rw [e] at e2
        injection e2 with e2
        omega
  refine ⟨h.tidy.put (isKeyKL p) _, ?_, fun x hx => ?_, fun q hq => ?_, fun q hq => ?_, fun q hq r hr hne => ?_⟩
  · rw [Maps.size_put h.tidy, List.map_append, List.map_singleton, Ix.uq_snoc, h.size]
    by_cases hp : p ∈ ps.map (·.1)
    · rw [if_pos ((h.has p hk).2 hp), if_pos ((Ix.mem_uq _ _).2 hp)]
    · have : Maps.has D (KL p) = false := by
        cases hh : Maps.has D (KL p) with
        | false => rfl
        | true => exact absurd ((h.has p hk).1 hh) hp
      rw [this, if_neg (by simp), if_neg (fun k => hp ((Ix.mem_uq _ _).1 k))]
      simp
  · rcases List.mem_append.1 hx with hx | hx
    · exact h.ok x hx
    · simp at hx; subst hx; exact hk
  · rw [hmem]
    by_cases e : q = p
    · subst e
      simp [has_put_same h.tidy.isMap (isKeyKL q)]
    · rw [has_put_other (fun e2 => e (kl_inj hq hk e2)), h.has q hq]
      simp [e]
  · by_cases e : q = p
    · subst e
      simp only [if_true]
      refine ⟨fun z => atKey_put_same h.tidy.isMap (isKeyKL q) _ _, ?_⟩
      rw [Ix.plc_same]; exact ho
    · have hq2 := ((hmem q).1 hq).resolve_right e
      simp only [if_neg e]
      refine ⟨fun z => ?_, ?_⟩
      · rw [atKey_put_other (fun e2 => e (kl_inj (h.kok hq2) hk e2))]
        exact (h.at_ q hq2).1 z
      · rw [Ix.plc_other (fun e2 => e e2.symm)]
        exact World.ownsRow.kept (h.at_ q hq2).2 hg (hap q hq2 e)
  · by_cases e1 : q = p
    · subst e1
      have hr2 := ((hmem r).1 hr).resolve_right (fun e => hne e.symm)
      simp only [if_true, if_neg (fun e => hne e.symm : ¬ r = q)]
      rcases hap2 r hr2 (fun e => hne e.symm) with h1 | h1
      · cases h2 : (slV s').ownBlock with
        | none => exact .inl rfl
        | some g => exact .inr (by rw [h1]; simp)
      · exact .inr fun e => h1 e.symm
    · have hq2 := ((hmem q).1 hq).resolve_right e1
      by_cases e2 : r = p
      · subst e2
        simp only [if_true, if_neg e1]
        exact hap2 q hq2 e1
      · have hr2 := ((hmem r).1 hr).resolve_right e2
        simp only [if_neg e1, if_neg e2]
        exact h.apart q hq2 r hr2 hne
theorem Gx.kept {w w' : World} {base b : Nat} {D : DataW Sl} {ps : List (Pr × Nat)} {S : Pr → Sl} (h : Gx w base D ps S) (hg : w.grownBy w' (some b)) (hb : b < base) : Gx w' base D ps S :=
  ⟨h.tidy, h.size, h.ok, h.has, fun p hp => ⟨(h.at_ p hp).1, World.ownsRow.kept (h.at_ p hp).2 hg (by
    cases hq : (slV (S p)).ownBlock with
    | none => exact .inl rfl
    | some j =>
      refine .inr fun e => ?_
      have := ((h.at_ p hp).2.lt j hq).1
      injection e with e
      omega)⟩, h.apart⟩
end Go.Proofs.Ytnfigjggjmncdaa
namespace Go.Proofs.Ytnfigjggjmncdaa
open Go.RowKit Go.Maps Go.WideMaps Spans Tb Op
/-- Entries that are not too long, and whose predicates may lie in memory. -/
def XFew (es : List Ex) : Prop := ∀ x ∈ es, x.n ≤ 1000 ∧ ∀ p ∈ x.f, KOk p
def fls (es : List Ex) : List (List Pr) := es.map Ex.f
theorem fls_at {es : List Ex} {k : Nat} (h : k < es.length) : (fls es)[k]? = some es[k].f := by simp [fls, h]
theorem fls_len (es : List Ex) : (fls es).length = es.length := by simp [fls]
theorem fls_all {R : Nat} : ∀ {es : List Ex}, (∀ x ∈ es, x.f.length ≤ R) → (fls es).flatten.length ≤ es.length * R
  | [], _ => by simp [fls]
  | x :: r, h => by
    have h1 := fls_all (es := r) fun y hy => h y (by simp [hy])
    have h2 := h x (by simp)
    unfold fls at *
    rw [List.map_cons, List.flatten_cons, List.length_append, List.length_cons, Nat.succ_mul]
    omega
/-- The row of needs. -/
def ndEnc (x : Ex) : List Value := [.int .i64 x.id, .int .i64 (x.n : Int)]
def ndRow (es : List Ex) : List Value := es.flatMap ndEnc
theorem nd_len : ∀ es : List Ex, (ndRow es).length = es.length * 2
  | [] => rfl
  | x :: r => by
    have := nd_len r
    unfold ndRow at *
    rw [List.flatMap_cons, List.length_append, this, List.length_cons]
    simp [ndEnc]; omega
theorem nd_at : ∀ (es : List Ex) (k : Nat) (h : k < es.length), (ndRow es)[k * 2]? = some (.int .i64 es[k].id) ∧ (ndRow es)[k * 2 + 1]? = some (.int .i64 (es[k].n : Int))
  | [], k, h => by simp at h
  | x :: r, 0, _ => ⟨rfl, rfl⟩
  | x :: r, k + 1, h => by
    have := nd_at r k (by simpa using h)
    unfold ndRow at *
    rw [List.flatMap_cons, show (k + 1) * 2 = k * 2 + 2 by omega, show k * 2 + 2 + 1 = (k * 2 + 1) + 2 by omega]
    rw [List.getElem?_append_right (by simp [ndEnc]), List.getElem?_append_right (by simp [ndEnc])]
    simpa [ndEnc] using this
theorem fill2 {L Z : List Value} {k : Nat} {u v : Value} (hk : k * 2 + 1 < L.length) (hl : L.length = Z.length) (hu : L[k * 2]? = some u) (hv : L[k * 2 + 1]? = some v) :
    (((L.take (k * 2) ++ Z.drop (k * 2)).toArray).setIfInBounds (k * 2) u).setIfInBounds (k * 2 + 1) v = (L.take ((k + 1) * 2) ++ Z.drop ((k + 1) * 2)).toArray := by
  rw [fill_step L Z (k * 2) u (by omega) hl hu, fill_step L Z (k * 2 + 1) v hk hl hv, show (k + 1) * 2 = k * 2 + 1 + 1 by omega]
theorem fill_size {L Z : List Value} (k : Nat) (hl : L.length = Z.length) : ((L.take k ++ Z.drop k).toArray).size = L.length := by
  simp; omega
theorem make_need (n : Nat) (hn : n ≤ 100000) : ∃ Z : List Value, Z.length = n * 2 ∧ ∀ W : World, (Instr.makeSlice 50 (.int .i64 (n : Int)) (.int .i64 (n : Int))).run Try.prog W = .ok (.slice (some ⟨W.heap.size, 0, none⟩) n n) (W.alloc (.cells Z.toArray 55)) := by
  have hinfo : (Try.prog.info? 55).map (fun i => (i.zero, i.size, i.bytes)) = some (some (.agg #[.int .i64 0, .int .i64 0]), 2, 16) := by kernel_rfl
  obtain ⟨i, hi, hz, hs, hby⟩ := info_parts hinfo
  refine ⟨(madeCells (Value.agg #[.int .i64 0, .int .i64 0]).cells (n * 2)).toList, by simpa using size_madeCells _ _, fun W => ?_⟩
  have h := run_make (P := Try.prog) W 50 55 i _ Try.underlying50 hi hz .i64 .i64 n n (by omega) (by omega) (by rw [hby]; show (16 : Int) * n ≤ _; omega) (by omega)
  rw [hs] at h
  simpa using h
/-- An index over entries, in memory. -/
structure IxR (w : World) (g : Nat) (es : List Ex) (a b m base : Nat) (D : DataW Sl) (S : Pr → Sl) : Prop where
  box : Blk w g 53 #[.slice (some ⟨a, 0, none⟩) es.length es.length, .map (some b)]
  row : Blk w a 55 (ndRow es).toArray
  map : OwnX w b m D
  gx : Gx w base D (Ix.prs (fls es)) S
theorem IxR.below {w w' : World} {g : Nat} {es : List Ex} {a b m base : Nat} {D : DataW Sl} {S : Pr → Sl} (h : IxR w g es a b m base D S) (hb : Below w.heap.size w w') : IxR w' g es a b m base D S :=
  ⟨h.box.below hb h.box.lt, h.row.below hb h.row.lt, h.map.below hb, h.gx.below hb⟩
def IsIx (w : World) (g : Nat) (es : List Ex) : Prop := ∃ a b m base D S, IxR w g es a b m base D S
theorem IsIx.below {w w' : World} {g : Nat} {es : List Ex} (h : IsIx w g es) (hb : Below w.heap.size w w') : IsIx w' g es := by
  obtain ⟨a, b, m, base, D, S, h⟩ := h
  exact ⟨a, b, m, base, D, S, h.below hb⟩
theorem Blk.kept {w w' : World} {g : Nat} {t : TypeId} {cs : Array Value} {row : Option Nat} (h : Blk w g t cs) (hg : w.grownBy w' row) (hne : some g ≠ row) : Blk w' g t cs := (hg.block g h.lt hne).trans h
theorem OwnZ.kept_b {α : Type} {L : LayZ α} {w w' : World} {base b : Nat} {v : Value} {es : List α} (h : OwnZ L w base v es) (hg : w.grownBy w' (some b)) (hb : b < base) : OwnZ L w' base v es :=
  World.ownsRow.kept h hg (by
    cases hq : v.ownBlock with
    | none => exact .inl rfl
    | some j =>
      refine .inr fun e => ?_
      have := (h.lt j hq).1
      injection e with e
      omega)
theorem op_append_at {α : Type} (L : LayZ α) {w : World} {o : Oper} {a : Act} {K : Act → World → Prop} {Q : Exit → Act → World → Prop} (s x : Operand) (st : TypeId) (hst : Try.prog.underlying st = some (.slice L.T))
    (ho : o.op = .call { callee := .builtin .append, args := #[s, x], argTypes := #[st, st] }) (base : Nat)
    (v : Value) (es : List α) (hs : a.eval s = v) (hown : OwnZ L w base v es) (A : Option Addr) (fs : List α) (m c : Nat) (hx : a.eval x = .slice A m c) (hr : RdZ L w A fs) (hm : fs.length = m)
    (h63 : es.length + m ≤ maxLen) (hlb : (es.length + m) * L.bytes ≤ 140737488355328) (hbase : base ≤ w.heap.size)
    (h : ∀ v' w', OwnZ L w' base v' (es ++ fs) → w.grownBy w' v.ownBlock → (v'.ownBlock = v.ownBlock ∨ v'.ownBlock = some w.heap.size) → K (a.put o.dst v') w') : Oper.wp Try.prog o a w K Q := by
  obtain ⟨v', w', hrun, h2, h3, h4⟩ := run_append_z w base st o.type hst v es hown A fs m c hr hm h63 hlb hbase
  unfold Oper.wp execOp
  simp only [ho, resolve, invoke, builtin, Sem.run_bind, Sem.run_pure, Result.andThen_ok, List.map_toArray, List.map_cons, List.map_nil, hs, hx, hrun]
  exact h v' w' h2 h3 h4
theorem own_ne_b {α : Type} {L : LayZ α} {w : World} {base b : Nat} {v : Value} {es : List α} (h : OwnZ L w base v es) (hb : b < base) : some b ≠ v.ownBlock := fun e => by
  have := (h.lt b e.symm).1
  omega
end Go.Proofs.Ytnfigjggjmncdaa
namespace Go.Proofs.Ytnfigjggjmncdaa
open Go.RowKit Go.Maps Go.WideMaps Spans Op
end Go.Proofs.Ytnfigjggjmncdaa
