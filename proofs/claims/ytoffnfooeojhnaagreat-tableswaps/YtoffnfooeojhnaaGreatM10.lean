/- Contracts of the program and of the document (TMath, TRow, QB, TEq, TLink, TCopy, TSame, TFind, TCps, TRL, TRight), each used further on. -/
import Derived.Test.YtoffnfooeojhnaaGreatM9
namespace Go.Proofs.YtoffnfooeojhnaaGreat
namespace Tb
open Spans
/-- A link. -/
structure Lk where
  id : Int
  ad : List UInt8
instance : Inhabited Lk := ⟨⟨0, []⟩⟩
instance : DecidableEq Lk := fun a b => decidable_of_iff (a.id = b.id ∧ a.ad = b.ad) (by cases a; cases b; simp)
/-- An entry. -/
structure En where
  id : Int
  fr : Int
  f : List Pr
instance : Inhabited En := ⟨⟨0, 0, []⟩⟩
instance : DecidableEq En := fun a b => decidable_of_iff (a.id = b.id ∧ a.fr = b.fr ∧ a.f = b.f) (by cases a; cases b; simp)
/-- A state. -/
structure Bk where
  ep : Int
  ls : List Lk
  av : List En
  su : List En
instance : DecidableEq Bk := fun a b => decidable_of_iff (a.ep = b.ep ∧ a.ls = b.ls ∧ a.av = b.av ∧ a.su = b.su) (by cases a; cases b; simp)
/-- Ids that rise. -/
def Rise (l : List Int) : Prop := l.Pairwise (fun a b => a < b) ∧ ∀ x ∈ l, 1 ≤ x ∧ x ≤ 1073741824
def last (l : List Int) : Int := l.getLast?.getD 0
theorem rise_nil : Rise [] := ⟨.nil, fun x h => by cases h⟩
theorem last_nil : last [] = 0 := rfl
theorem last_snoc (l : List Int) (x : Int) : last (l ++ [x]) = x := by unfold last; simp
theorem le_last {l : List Int} (h : l.Pairwise (fun a b => a < b)) {a : Int} (ha : a ∈ l) : a ≤ last l := by
  rcases List.eq_nil_or_concat l with rfl | ⟨m, y, rfl⟩
  · cases ha
  · rw [List.concat_eq_append] at *
    rw [last_snoc]
    rcases List.mem_append.1 ha with h1 | h1
    · exact Int.le_of_lt ((List.pairwise_append.1 h).2.2 a h1 y (by simp))
    · simp at h1; omega
theorem last_mem {l : List Int} (h : l ≠ []) : last l ∈ l := by
  rcases List.eq_nil_or_concat l with rfl | ⟨m, y, rfl⟩
  · exact absurd rfl h
  · rw [List.concat_eq_append, last_snoc]; simp
theorem rise_snoc {l : List Int} {x : Int} : Rise (l ++ [x]) ↔ Rise l ∧ last l < x ∧ x ≤ 1073741824 := by
  constructor
  · rintro ⟨h1, h2⟩
    obtain ⟨p1, _, p3⟩ := List.pairwise_append.1 h1
    refine ⟨⟨p1, fun a ha => h2 a (by simp [ha])⟩, ?_, (h2 x (by simp)).2⟩
    by_cases hl : l = []
    · subst hl; rw [last_nil]; have := (h2 x (by simp)).1; omega
    · exact p3 _ (last_mem hl) x (by simp)
  · rintro ⟨⟨h1, h2⟩, h3, h4⟩
    refine ⟨List.pairwise_append.2 ⟨h1, by simp, fun a ha b hb => ?_⟩, fun a ha => ?_⟩
    · simp at hb; subst hb; have := le_last h1 ha; omega
    · rcases List.mem_append.1 ha with h | h
      · exact h2 a h
      · simp at h; subst h
        refine ⟨?_, h4⟩
        by_cases hl : l = []
        · subst hl; rw [last_nil] at h3; omega
        · have := (h2 _ (last_mem hl)).1; omega
theorem Rise.sub {l m : List Int} (h : Rise l) (hs : m.Sublist l) : Rise m := ⟨h.1.sublist hs, fun x hx => h.2 x (hs.subset hx)⟩
theorem Rise.lt {A : Type} {g : A → Int} {l : List A} (h : Rise (l.map g)) {i k : Nat} (hk : k < l.length) (hik : i < k) : g (l[i]'(Nat.lt_trans hik hk)) < g l[k] := by
  have := (List.pairwise_iff_getElem.1 h.1) i k (by simp; omega) (by simp; omega) hik
  simpa using this
theorem Rise.inj {A : Type} {g : A → Int} {l : List A} (h : Rise (l.map g)) {i k : Nat} (hi : i < l.length) (hk : k < l.length) (e : g l[i] = g l[k]) : i = k := by
  rcases Nat.lt_trichotomy i k with h1 | h1 | h1
  · have := h.lt hk h1; omega
  · exact h1
  · have := h.lt hi h1; omega
theorem Rise.mem {A : Type} {g : A → Int} {l : List A} (h : Rise (l.map g)) {a b : A} (ha : a ∈ l) (hb : b ∈ l) (e : g a = g b) : a = b := by
  obtain ⟨i, hi, rfl⟩ := List.mem_iff_getElem.1 ha
  obtain ⟨k, hk, rfl⟩ := List.mem_iff_getElem.1 hb
  have := h.inj hi hk e
  subst this; rfl
/-! A row without one of it. -/
def cut {A : Type} (l : List A) (k : Nat) : List A := l.take k ++ l.drop (k + 1)
theorem cut_sub {A : Type} (l : List A) (k : Nat) : (cut l k).Sublist l := by
  unfold cut
  conv => rhs; rw [← List.take_append_drop k l]
  exact List.Sublist.append (List.Sublist.refl _) (by rw [show k + 1 = k + 1 from rfl, ← List.drop_drop]; exact List.drop_sublist _ _)
theorem cut_len {A : Type} {l : List A} {k : Nat} (h : k < l.length) : (cut l k).length + 1 = l.length := by unfold cut; simp; omega
theorem cut_map {A B : Type} (g : A → B) (l : List A) (k : Nat) : (cut l k).map g = cut (l.map g) k := by unfold cut; simp [List.map_take, List.map_drop]
theorem cut_mem {A : Type} {l : List A} {k : Nat} {x : A} (hx : x ∈ l) (hk : k < l.length) (hn : x ≠ l[k]) : x ∈ cut l k := by
  obtain ⟨j, hj, rfl⟩ := List.mem_iff_getElem.1 hx
  unfold cut
  rcases Nat.lt_trichotomy j k with h | h | h
  · exact List.mem_append_left _ (List.mem_iff_getElem.2 ⟨j, by simp; omega, by simp⟩)
  · subst h; exact absurd rfl hn
  · exact List.mem_append_right _ (List.mem_iff_getElem.2 ⟨j - (k + 1), by simp; omega, by simp; congr 1; omega⟩)
theorem cut_out {A : Type} {g : A → Int} {l : List A} (h : Rise (l.map g)) {k : Nat} (hk : k < l.length) : ∀ x ∈ cut l k, g x ≠ g l[k] := by
  intro x hx e
  unfold cut at hx
  rcases List.mem_append.1 hx with h1 | h1
  · obtain ⟨j, hj, rfl⟩ := List.mem_iff_getElem.1 h1
    simp at hj
    rw [List.getElem_take] at e
    have := h.lt hk (show j < k by omega); omega
  · obtain ⟨j, hj, rfl⟩ := List.mem_iff_getElem.1 h1
    simp at hj
    rw [List.getElem_drop] at e
    have := h.lt (i := k) (k := k + 1 + j) (by omega) (by omega); omega
/-! Which states are right. -/
def LinksOk (ls : List Lk) : Prop := ls.length ≤ 16 ∧ Rise (ls.map Lk.id) ∧ ∀ k ∈ ls, k.ad.length ≤ 32
def Linked (ls : List Lk) (i : Int) : Prop := ∃ k ∈ ls, k.id = i
def EntsOk (ls : List Lk) (l : List En) : Prop := l.length ≤ 64 ∧ Rise (l.map En.id) ∧ ∀ e ∈ l, Linked ls e.fr ∧ Fil.NormIs e.f e.f 0
structure Right (s : Bk) : Prop where
  ep0 : 0 ≤ s.ep
  ep1 : s.ep ≤ 1099511627776
  ls : LinksOk s.ls
  av : EntsOk s.ls s.av
  su : EntsOk s.ls s.su
theorem EntsOk.sub {ls : List Lk} {l m : List En} (h : EntsOk ls l) (hs : m.Sublist l) : EntsOk ls m :=
  ⟨Nat.le_trans hs.length_le h.1, h.2.1.sub (hs.map _), fun e he => h.2.2 e (hs.subset he)⟩
theorem LinksOk.sub {l m : List Lk} (h : LinksOk l) (hs : m.Sublist l) : LinksOk m :=
  ⟨Nat.le_trans hs.length_le h.1, h.2.1.sub (hs.map _), fun e he => h.2.2 e (hs.subset he)⟩
def findL (ls : List Lk) (i : Int) : Option Lk := ls.find? fun k => decide (k.id = i)
def findE (l : List En) (i : Int) : Option En := l.find? fun e => decide (e.id = i)
theorem findL_none {ls : List Lk} {i : Int} : findL ls i = none ↔ ¬ Linked ls i := by
  unfold findL Linked
  rw [List.find?_eq_none]
  simp
theorem findL_some {ls : List Lk} {i : Int} : (findL ls i).isSome = true ↔ Linked ls i := by
  have := findL_none (ls := ls) (i := i)
  cases h : findL ls i with
  | none => simp; exact this.1 h
  | some x => rw [h] at this; simp at this ⊢; exact this
theorem findE_none {l : List En} {i : Int} : findE l i = none ↔ ∀ e ∈ l, e.id ≠ i := by
  unfold findE
  rw [List.find?_eq_none]
  simp
theorem findE_self {l : List En} (h : Rise (l.map En.id)) {e : En} (he : e ∈ l) : findE l e.id = some e := by
  unfold findE
  cases hf : l.find? (fun x => decide (x.id = e.id)) with
  | none => have := List.find?_eq_none.1 hf e he; simp at this
  | some x =>
    have h1 := List.find?_some hf
    have h2 := List.mem_of_find?_eq_some hf
    simp at h1
    rw [h.mem h2 he h1]
theorem findE_cut {l : List En} (h : Rise (l.map En.id)) {k : Nat} (hk : k < l.length) : findE (cut l k) l[k].id = none := findE_none.2 (cut_out h hk)
theorem Right.less {s : Bk} (h : Right s) (k : Nat) : Right { s with su := cut s.su k } := ⟨h.ep0, h.ep1, h.ls, h.av, h.su.sub (cut_sub _ _)⟩
theorem links_cut {s : Bk} (h : Right s) {k : Nat} (hk : k < s.ls.length) : Right { s with ls := cut s.ls k } ↔ ¬ ∃ e, (e ∈ s.su ∨ e ∈ s.av) ∧ e.fr = s.ls[k].id := by
  constructor
  · rintro h' ⟨e, he, hf⟩
    have hl : Linked (cut s.ls k) e.fr := by
      rcases he with he | he
      · exact (h'.su.2.2 e he).1
      · exact (h'.av.2.2 e he).1
    obtain ⟨x, hx, hxi⟩ := hl
    exact cut_out h.ls.2.1 hk x hx (hxi.trans hf)
  · intro hn
    have hl : ∀ e, (e ∈ s.su ∨ e ∈ s.av) → Linked s.ls e.fr → Linked (cut s.ls k) e.fr := by
      rintro e he ⟨x, hx, hxi⟩
      refine ⟨x, cut_mem hx hk (fun hxk => hn ⟨e, he, by rw [← hxi, hxk]⟩), hxi⟩
    exact ⟨h.ep0, h.ep1, h.ls.sub (cut_sub _ _), ⟨h.av.1, h.av.2.1, fun e he => ⟨hl e (.inr he) (h.av.2.2 e he).1, (h.av.2.2 e he).2⟩⟩,
      ⟨h.su.1, h.su.2.1, fun e he => ⟨hl e (.inl he) (h.su.2.2 e he).1, (h.su.2.2 e he).2⟩⟩⟩
/-- Two of a row that stand so that the former one's Id is not the lesser one. -/
theorem not_rise {A : Type} {g : A → Int} {l : List A} {i k : Nat} (hk : k < l.length) (hik : i < k) (h : ¬ g (l[i]'(Nat.lt_trans hik hk)) < g l[k]) : ¬ Rise (l.map g) := fun hr => h (hr.lt hk hik)
theorem swap_not {s : Bk} (h : Right s) {i k : Nat} (hik : i < k) (hk : k < s.su.length) {m : List En} (hm : m.length = s.su.length) (hi' : m[i]'(by omega) = s.su[k] ∨ m[i]'(by omega) = s.su[i]'(by omega)) (hk' : m[k]'(by omega) = s.su[i]'(by omega)) :
    ¬ Right { s with su := m } ∧ s.su ≠ m := by
  have h1 := h.su.2.1.lt hk hik
  refine ⟨fun hr => ?_, fun e => ?_⟩
  · have h2 := hr.su.2.1.lt (l := m) (g := En.id) (i := i) (k := k) (by omega) hik
    rcases hi' with e | e <;> rw [e, hk'] at h2 <;> omega
  · subst e
    rw [← hk'] at h1; omega
end Tb
end Go.Proofs.YtoffnfooeojhnaaGreat
namespace Go.Proofs.YtoffnfooeojhnaaGreat
open Go.RowKit Go.Sort Spans Tb
def cellsL (a : Lk) : List Value := [.int .i64 a.id, .string ⟨a.ad.toArray⟩]
def layL : Lay Lk where
  enc := cellsL
  k := 2
  T := 64
  zero := #[.int .i64 0, .string ⟨#[]⟩]
  bytes := 24
  len := fun _ => rfl
  one := fun a v hv => by simp [cellsL] at hv; rcases hv with rfl | rfl <;> rfl
  pos := by decide
  zlen := rfl
  info := by kernel_rfl
/-- An entry, and where its filter lies. -/
structure Ex where
  id : Int
  fr : Int
  A : Option Addr
  n : Nat
  c : Nat
  f : List Pr
instance : Inhabited Ex := ⟨⟨0, 0, none, 0, 0, []⟩⟩
abbrev Ex.en (x : Ex) : En := ⟨x.id, x.fr, x.f⟩
def cellsE (x : Ex) : List Value := [.int .i64 x.id, .int .i64 x.fr, .slice x.A x.n x.c]
def layE : Lay Ex where
  enc := cellsE
  k := 3
  T := 58
  zero := #[.int .i64 0, .int .i64 0, .slice none 0 0]
  bytes := 40
  len := fun _ => rfl
  one := fun a v hv => by simp [cellsE] at hv; rcases hv with rfl | rfl | rfl <;> rfl
  pos := by decide
  zlen := rfl
  info := by kernel_rfl
abbrev RdLk (w : World) (A : Option Addr) (es : List Lk) : Prop := RdK layL w A es
abbrev OwnLk (w : World) (base : Nat) (v : Value) (es : List Lk) : Prop := OwnK layL w base v es
/-- An entry's filter in memory. -/
def Flt (w : World) (x : Ex) : Prop := x.f.length = x.n ∧ x.n ≤ x.c ∧ RdQ w x.A x.f
/-- A filter that the call itself made. -/
def FltO (w : World) (base : Nat) (x : Ex) : Prop := x.f.length = x.n ∧ x.n ≤ x.c ∧ OwnQ w base (.slice x.A x.n x.c) x.f
theorem Flt.below {w w' : World} {x : Ex} (h : Flt w x) (hb : Below w.heap.size w w') : Flt w' x := ⟨h.1, h.2.1, RdK.below h.2.2 hb⟩
theorem FltO.below {w w' : World} {base : Nat} {x : Ex} (h : FltO w base x) (hb : Below w.heap.size w w') : FltO w' base x := ⟨h.1, h.2.1, OwnK.below h.2.2 hb⟩
theorem FltO.less {w : World} {base base' : Nat} {x : Ex} (h : FltO w base x) (hb : base' ≤ base) : FltO w base' x := ⟨h.1, h.2.1, OwnK.less h.2.2 hb⟩
theorem FltO.rd {w : World} {base : Nat} {x : Ex} (h : FltO w base x) : Flt w x := by
  obtain ⟨_, _, e, _, hr⟩ := OwnK.rd h.2.2
  injection e with e1 e2 e3
  exact ⟨h.1, h.2.1, by rw [e1]; exact hr⟩
def RdEn (w : World) (A : Option Addr) (xs : List Ex) : Prop := RdK layE w A xs ∧ ∀ x ∈ xs, Flt w x
def OwnEn (w : World) (base : Nat) (v : Value) (xs : List Ex) : Prop := OwnK layE w base v xs ∧ ∀ x ∈ xs, FltO w base x
theorem RdEn.below {w w' : World} {A : Option Addr} {xs : List Ex} (h : RdEn w A xs) (hb : Below w.heap.size w w') : RdEn w' A xs := ⟨RdK.below h.1 hb, fun x hx => (h.2 x hx).below hb⟩
theorem OwnEn.below {w w' : World} {base : Nat} {v : Value} {xs : List Ex} (h : OwnEn w base v xs) (hb : Below w.heap.size w w') : OwnEn w' base v xs := ⟨OwnK.below h.1 hb, fun x hx => (h.2 x hx).below hb⟩
theorem OwnEn.less {w : World} {base base' : Nat} {v : Value} {xs : List Ex} (h : OwnEn w base v xs) (hb : base' ≤ base) : OwnEn w base' v xs := ⟨OwnK.less h.1 hb, fun x hx => (h.2 x hx).less hb⟩
theorem OwnEn.rd {w : World} {base : Nat} {A : Option Addr} {n c : Nat} {xs : List Ex} (h : OwnEn w base (.slice A n c) xs) : RdEn w A xs := by
  obtain ⟨_, _, e, _, hr⟩ := OwnK.rd h.1
  injection e with e1 e2 e3
  exact ⟨by rw [e1]; exact hr, fun x hx => (h.2 x hx).rd⟩
theorem RdEn.nil (w : World) (A : Option Addr) : RdEn w A [] := ⟨.inl rfl, fun x hx => by cases hx⟩
theorem RdLk.at2 {w : World} {A : Option Addr} {es : List Lk} (h : RdLk w A es) {k : Nat} (hk : k < es.length) : ∃ g off, A = some ⟨g, off, none⟩ ∧ g < w.heap.size ∧
    w.cell? ⟨g, off + k * 2, none⟩ = some (.int .i64 es[k].id) ∧ w.cell? ⟨g, off + k * 2 + 1, none⟩ = some (.string ⟨es[k].ad.toArray⟩) := by
  obtain ⟨g, off, rfl, hg, hc⟩ := RdK.at_ h hk
  exact ⟨g, off, rfl, hg, hc 0 _ rfl, hc 1 _ rfl⟩
theorem RdEn.at3 {w : World} {A : Option Addr} {es : List Ex} (h : RdEn w A es) {k : Nat} (hk : k < es.length) : ∃ g off, A = some ⟨g, off, none⟩ ∧ g < w.heap.size ∧
    w.cell? ⟨g, off + k * 3, none⟩ = some (.int .i64 es[k].id) ∧ w.cell? ⟨g, off + k * 3 + 1, none⟩ = some (.int .i64 es[k].fr) ∧ w.cell? ⟨g, off + k * 3 + 2, none⟩ = some (.slice es[k].A es[k].n es[k].c) ∧ Flt w es[k] := by
  obtain ⟨g, off, rfl, hg, hc⟩ := RdK.at_ h.1 hk
  exact ⟨g, off, rfl, hg, hc 0 _ rfl, hc 1 _ rfl, hc 2 _ rfl, h.2 _ (List.getElem_mem hk)⟩
theorem underL : Tryz.prog.underlying 49 = some (.slice layL.T) := Tryz.underlying49
theorem underE : Tryz.prog.underlying 50 = some (.slice layE.T) := Tryz.underlying50
/-- A state by value. -/
structure Sx where
  ep : Int
  A : Option Addr
  n : Nat
  c : Nat
  ls : List Lk
  A1 : Option Addr
  n1 : Nat
  c1 : Nat
  av : List Ex
  A2 : Option Addr
  n2 : Nat
  c2 : Nat
  su : List Ex
abbrev Sx.v (s : Sx) : Value := .agg #[.int .i64 s.ep, .slice s.A s.n s.c, .slice s.A1 s.n1 s.c1, .slice s.A2 s.n2 s.c2]
abbrev Sx.bk (s : Sx) : Bk := ⟨s.ep, s.ls, s.av.map Ex.en, s.su.map Ex.en⟩
structure Sx.Len (s : Sx) : Prop where
  n : s.ls.length = s.n
  c : s.n ≤ s.c
  n1 : s.av.length = s.n1
  c1 : s.n1 ≤ s.c1
  n2 : s.su.length = s.n2
  c2 : s.n2 ≤ s.c2
structure Sx.Rd (w : World) (s : Sx) : Prop where
  ls : RdLk w s.A s.ls
  av : RdEn w s.A1 s.av
  su : RdEn w s.A2 s.su
theorem Sx.Rd.below {w w' : World} {s : Sx} (h : s.Rd w) (hb : Below w.heap.size w w') : s.Rd w' := ⟨RdK.below h.ls hb, h.av.below hb, h.su.below hb⟩
structure Sx.Own (w : World) (base : Nat) (s : Sx) : Prop where
  ls : OwnLk w base (.slice s.A s.n s.c) s.ls
  av : OwnEn w base (.slice s.A1 s.n1 s.c1) s.av
  su : OwnEn w base (.slice s.A2 s.n2 s.c2) s.su
theorem Sx.Own.below {w w' : World} {base : Nat} {s : Sx} (h : s.Own w base) (hb : Below w.heap.size w w') : s.Own w' base := ⟨OwnK.below h.ls hb, h.av.below hb, h.su.below hb⟩
theorem Sx.Own.less {w : World} {base base' : Nat} {s : Sx} (h : s.Own w base) (hb : base' ≤ base) : s.Own w base' := ⟨OwnK.less h.ls hb, h.av.less hb, h.su.less hb⟩
theorem rdk_own {α : Type} {L : Lay α} {w : World} {base : Nat} {A : Option Addr} {n c : Nat} {es : List α} (h : OwnK L w base (.slice A n c) es) : RdK L w A es := by
  obtain ⟨_, _, e, _, hr⟩ := OwnK.rd h
  injection e with e1 e2 e3
  rw [e1]; exact hr
theorem Sx.Own.rd {w : World} {base : Nat} {s : Sx} (h : s.Own w base) : s.Rd w := ⟨rdk_own h.ls, h.av.rd, h.su.rd⟩
/-- Bounds of what is read: names, texts, ints of 64 bits. -/
def PBx (f : List Pr) : Prop := ∀ p ∈ f, p.n.length ≤ 9223372036854775807 ∧ p.t.length ≤ 9223372036854775807 ∧ -9223372036854775808 ≤ p.i ∧ p.i ≤ 9223372036854775807
def EBx (xs : List Ex) : Prop := ∀ x ∈ xs, x.n ≤ 2600000000000 ∧ -9223372036854775808 ≤ x.id ∧ x.id ≤ 9223372036854775807 ∧ PBx x.f
def LBx (l : List Lk) : Prop := ∀ k ∈ l, k.ad.length ≤ 9223372036854775807 ∧ -9223372036854775808 ≤ k.id ∧ k.id ≤ 9223372036854775807
end Go.Proofs.YtoffnfooeojhnaaGreat
namespace Go.Proofs.YtoffnfooeojhnaaGreat
open Go.RowKit Go.Sort
def gx (w : World) (n : Nat) (os : Array Obj) : World := { w with drawn := n, heap := w.heap ++ os }
theorem gx_size (w : World) (n : Nat) (os : Array Obj) : (gx w n os).heap.size = w.heap.size + os.size := by simp [gx]
theorem below_gx (w : World) (n : Nat) (os : Array Obj) : Below w.heap.size w (gx w n os) :=
  ⟨rfl, rfl, rfl, by rw [gx_size]; omega, fun k hk => by show (w.heap ++ os)[k]? = _; rw [Array.getElem?_append_left hk]⟩
theorem gx_of {w w' : World} (h : Below w.heap.size w w') : ∃ p : GrownBy, w' = gx w p.n p.os := by
  have hh : w'.heap = w.heap ++ w'.heap.extract w.heap.size w'.heap.size := by
    refine Array.ext_getElem? fun i => ?_
    by_cases hi : i < w.heap.size
    · rw [Array.getElem?_append_left hi]; exact h.block i hi
    · rw [Array.getElem?_append_right (by omega), Array.getElem?_extract]
      by_cases hj : i < w'.heap.size
      · rw [if_pos (by omega)]; congr 1; omega
      · rw [if_neg (by omega)]; exact Array.getElem?_eq_none (by omega)
  have h1 := h.os
  have h2 := h.tape
  have h3 := h.output
  refine ⟨⟨w'.drawn, w'.heap.extract w.heap.size w'.heap.size⟩, ?_⟩
  show w' = { w with drawn := w'.drawn, heap := w.heap ++ w'.heap.extract w.heap.size w'.heap.size }
  rw [← hh, ← h1, ← h2, ← h3]
theorem gx_cell {w : World} {a : Addr} {v : Value} (h : w.cell? a = some v) (n : Nat) (os : Array Obj) : (gx w n os).cell? a = some v :=
  ((below_gx w n os).cell (World.block_lt_of_cell? w _ h)).trans h
theorem calls_gx {P : Program} {f : FuncId} {args : Array Value} {w : World} {n : Nat} {os : Array Obj} {v : Value}
    (h : Calls P f args (gx w n os) fun e w' => e = .returned v ∧ Below (gx w n os).heap.size (gx w n os) w') : Calls P f args (gx w n os) fun e w'' => e = .returned v ∧ ∃ p : GrownBy, w'' = gx w p.n p.os :=
  h.mono fun _ _ ⟨he, hb⟩ => ⟨he, gx_of (below_next (below_gx w n os) (Nat.le_refl _) hb)⟩
theorem qb_region {P : Program} {id : Nat} {Q : Exit → Act → World → Prop} {a : Act} {w : World} {l : List Oper} (hm : P.follows .mixedOrders = true) (hB : Region.lexB .any l.toArray = true)
    (h : HQ P l.toArray (fun w' => ∃ p : GrownBy, w' = gx w p.n p.os) (fun a' => ∀ w', (∃ p : GrownBy, w' = gx w p.n p.os) → Q .normal a' w') l a) : (Code.region id l.toArray true).wp P Q a w :=
  wp_region_quiet (C := fun w' => ∃ p : GrownBy, w' = gx w p.n p.os) hm hB ⟨⟨w.drawn + 1, #[]⟩, by simp [gx]⟩ (by simpa using h.out)
theorem blk4 {w : World} {g : Nat} {t : TypeId} {a b c d : Value} (hB : Blk w g t #[a, b, c, d]) :
    w.cell? ⟨g, 0, none⟩ = some a ∧ w.cell? ⟨g, 1, none⟩ = some b ∧ w.cell? ⟨g, 2, none⟩ = some c ∧ w.cell? ⟨g, 3, none⟩ = some d ∧
      w.frozen? ⟨g, 0, none⟩ = false ∧ w.frozen? ⟨g, 1, none⟩ = false ∧ w.frozen? ⟨g, 2, none⟩ = false ∧ w.frozen? ⟨g, 3, none⟩ = false :=
  ⟨hB.cell 0, hB.cell 1, hB.cell 2, hB.cell 3, hB.frozen 0, hB.frozen 1, hB.frozen 2, hB.frozen 3⟩
theorem gx4 {w : World} {g : Nat} {t : TypeId} {a b c d : Value} (hB : Blk w g t #[a, b, c, d]) :
    (∀ n os, (gx w n os).cell? ⟨g, 0, none⟩ = some a) ∧ (∀ n os, (gx w n os).cell? ⟨g, 1, none⟩ = some b) ∧ (∀ n os, (gx w n os).cell? ⟨g, 2, none⟩ = some c) ∧ (∀ n os, (gx w n os).cell? ⟨g, 3, none⟩ = some d) :=
  ⟨gx_cell (hB.cell 0), gx_cell (hB.cell 1), gx_cell (hB.cell 2), gx_cell (hB.cell 3)⟩
theorem gx3 {w : World} {g : Nat} {t : TypeId} {a b c : Value} (hB : Blk w g t #[a, b, c]) :
    (∀ n os, (gx w n os).cell? ⟨g, 0, none⟩ = some a) ∧ (∀ n os, (gx w n os).cell? ⟨g, 1, none⟩ = some b) ∧ (∀ n os, (gx w n os).cell? ⟨g, 2, none⟩ = some c) :=
  ⟨gx_cell (by rw [hB.cell]; rfl), gx_cell (by rw [hB.cell]; rfl), gx_cell (by rw [hB.cell]; rfl)⟩
theorem gx2 {w : World} {g : Nat} {t : TypeId} {a b : Value} (hB : Blk w g t #[a, b]) :
    (∀ n os, (gx w n os).cell? ⟨g, 0, none⟩ = some a) ∧ (∀ n os, (gx w n os).cell? ⟨g, 1, none⟩ = some b) :=
  ⟨gx_cell (by rw [hB.cell]; rfl), gx_cell (by rw [hB.cell]; rfl)⟩
theorem below_put2 {B b : Nat} {w0 w : World} (h : Below B w0 w) (hb : B ≤ b) (u0 u1 : Value) : Below B w0 ((w.setCell ⟨b, 0, none⟩ u0).setCell ⟨b, 1, none⟩ u1) := below_set (below_set h hb) hb
theorem below_put3 {B b : Nat} {w0 w : World} (h : Below B w0 w) (hb : B ≤ b) (u0 u1 u2 : Value) : Below B w0 (((w.setCell ⟨b, 0, none⟩ u0).setCell ⟨b, 1, none⟩ u1).setCell ⟨b, 2, none⟩ u2) := below_set (below_put2 h hb _ _) hb
theorem below_put4 {B b : Nat} {w0 w : World} (h : Below B w0 w) (hb : B ≤ b) (u0 u1 u2 u3 : Value) : Below B w0 ((((w.setCell ⟨b, 0, none⟩ u0).setCell ⟨b, 1, none⟩ u1).setCell ⟨b, 2, none⟩ u2).setCell ⟨b, 3, none⟩ u3) := below_set (below_put3 h hb _ _ _) hb
theorem OwnK.put3 {α : Type} {L : Lay α} {w : World} {base : Nat} {v : Value} {es : List α} (h : OwnK L w base v es) {b : Nat} (hb : b < base) (u0 u1 u2 : Value) :
    OwnK L (((w.setCell ⟨b, 0, none⟩ u0).setCell ⟨b, 1, none⟩ u1).setCell ⟨b, 2, none⟩ u2) base v es := ((h.set_ hb 0 u0).set_ hb 1 u1).set_ hb 2 u2
theorem OwnK.put4 {α : Type} {L : Lay α} {w : World} {base : Nat} {v : Value} {es : List α} (h : OwnK L w base v es) {b : Nat} (hb : b < base) (u0 u1 u2 u3 : Value) :
    OwnK L ((((w.setCell ⟨b, 0, none⟩ u0).setCell ⟨b, 1, none⟩ u1).setCell ⟨b, 2, none⟩ u2).setCell ⟨b, 3, none⟩ u3) base v es := (h.put3 hb _ _ _).set_ hb 3 u3
theorem Blk.far2 {w : World} {g b : Nat} {t : TypeId} {cs : Array Value} (h : Blk w g t cs) (hb : g ≠ b) (u0 u1 : Value) : Blk ((w.setCell ⟨b, 0, none⟩ u0).setCell ⟨b, 1, none⟩ u1) g t cs := Blk.far (Blk.far h (p := ⟨b, 0, none⟩) hb u0) (p := ⟨b, 1, none⟩) hb u1
theorem Blk.far3 {w : World} {g b : Nat} {t : TypeId} {cs : Array Value} (h : Blk w g t cs) (hb : g ≠ b) (u0 u1 u2 : Value) : Blk (((w.setCell ⟨b, 0, none⟩ u0).setCell ⟨b, 1, none⟩ u1).setCell ⟨b, 2, none⟩ u2) g t cs := Blk.far (Blk.far2 h hb u0 u1) (p := ⟨b, 2, none⟩) hb u2
theorem Blk.far4 {w : World} {g b : Nat} {t : TypeId} {cs : Array Value} (h : Blk w g t cs) (hb : g ≠ b) (u0 u1 u2 u3 : Value) : Blk ((((w.setCell ⟨b, 0, none⟩ u0).setCell ⟨b, 1, none⟩ u1).setCell ⟨b, 2, none⟩ u2).setCell ⟨b, 3, none⟩ u3) g t cs := Blk.far (Blk.far3 h hb u0 u1 u2) (p := ⟨b, 3, none⟩) hb u3
theorem Blk.put3 {w : World} {b : Nat} {t : TypeId} {c0 c1 c2 : Value} (h : Blk w b t #[c0, c1, c2]) (u0 u1 u2 : Value) : Blk (((w.setCell ⟨b, 0, none⟩ u0).setCell ⟨b, 1, none⟩ u1).setCell ⟨b, 2, none⟩ u2) b t #[u0, u1, u2] := by
  have h3 := ((h.put 0 u0).put 1 u1).put 2 u2
  simpa using h3
theorem Blk.put4 {w : World} {b : Nat} {t : TypeId} {c0 c1 c2 c3 : Value} (h : Blk w b t #[c0, c1, c2, c3]) (u0 u1 u2 u3 : Value) : Blk ((((w.setCell ⟨b, 0, none⟩ u0).setCell ⟨b, 1, none⟩ u1).setCell ⟨b, 2, none⟩ u2).setCell ⟨b, 3, none⟩ u3) b t #[u0, u1, u2, u3] := by
  have h4 := (((h.put 0 u0).put 1 u1).put 2 u2).put 3 u3
  simpa using h4
end Go.Proofs.YtoffnfooeojhnaaGreat
namespace Go.Proofs.YtoffnfooeojhnaaGreat
open Go.RowKit Spans Op Tb
theorem eqGuardL : Tryz.prog.eqGuardType Tryz.prog.depth 64 = false := by kernel_rfl
set_option maxRecDepth 100000 in
set_option maxHeartbeats 1000000 in
theorem equalL_at (A : Option Addr) (es : List Lk) (n cap : Nat) (hn : es.length = n) (hm : n ≤ 100000) (A' : Option Addr) (fs : List Lk) (n' cap' : Nat) (hn' : fs.length = n') (hm' : n' ≤ 100000) (w : World) (hr : RdLk w A es) (hr' : RdLk w A' fs) (b : Bool) (hb : decide (es = fs) = b) :
    Calls Tryz.prog 68 #[.slice A n cap, .slice A' n' cap'] w fun e w' => e = .returned (.bool b) ∧ Grown w w' := by
  subst hb
  have hG := eqGuardL
  have HN := Lib.hid hn
  have HN' := Lib.hid hn'
  have HR := Lib.hid hr
  have HR' := Lib.hid hr'
  clear hn hn' hr hr'
  by_cases hne : n = n'
  · subst hne
    go_enter Tryz.func68, Tryz.ntmps68
    go_wp2_with fail
    go_loopg [13] n (fun gg s8 wr => ∃ k : Nat, k ≤ n ∧ n - k ≤ gg ∧ s8 = .int .i64 (k : Int) ∧ Hid (Grown w wr) ∧ Hid (es.take k = fs.take k))
    case atStart => exact ⟨0, Nat.zero_le _, by omega, rfl, Grown.refl w, by show _ = _; simp⟩
    case round =>
      obtain ⟨k, hk, hgg, rfl, HG, HA⟩ := hrel
      by_cases hlt : k < n
      · have hk' : k < es.length := by rw [HN.out]; exact hlt
        have hk2 : k < fs.length := by rw [HN'.out]; exact hlt
        obtain ⟨g, off, rfl, hg, c0, c1⟩ := RdLk.at2 (RdK.below HR.out HG.out.below) hk'
        obtain ⟨g', off', rfl, hg', b0, b1⟩ := RdLk.at2 (RdK.below HR'.out HG.out.below) hk2
        obtain ⟨x, hx⟩ : ∃ x, es[k] = x := ⟨_, rfl⟩
        obtain ⟨y, hy⟩ : ∃ y, fs[k] = y := ⟨_, rfl⟩
        have HX := Lib.hid hx
        have HY := Lib.hid hy
        rw [hx] at c0 c1
        rw [hy] at b0 b1
        clear hx hy
        obtain ⟨xi, xa⟩ := x
        obtain ⟨yi, ya⟩ := y
        have w5 : (k : Int) < (n : Int) := by omega
        go_wp2_with fail
        refine wp_region_held_drew (S := fun w' => w' = wr.drew) (by kernel_rfl) rfl (fun _ => ?_)
        refine wpAnyH_yes (i := 0) (d := 16) (v := ?_) rfl rfl (by kernel_rfl) (by kernel_rfl) (by kernel_rfl) (fun _ _ _ h => h) (by rfl) ?_ rfl ?_
        rotate_left
        · intro w' hSw; subst hSw; go_simp <;> with_reducible rfl
        simp only [Act.put, List.setIfInBounds_toArray, List.set_cons_zero, List.set_cons_succ]
        refine wpAnyH_yes (i := 1) (d := 17) (v := ?_) rfl rfl (by kernel_rfl) (by kernel_rfl) (by kernel_rfl) (fun _ _ _ h => h) (by rfl) ?_ rfl ?_
        rotate_left
        · intro w' hSw; subst hSw; go_simp <;> with_reducible rfl
        simp only [Act.put, List.setIfInBounds_toArray, List.set_cons_zero, List.set_cons_succ]
        refine wpAnyH_yes (i := 2) (d := 18) (v := ?_) rfl rfl (by kernel_rfl) (by kernel_rfl) (by kernel_rfl) (fun _ _ _ h => h) (by rfl) ?_ rfl ?_
        rotate_left
        · intro w' hSw; subst hSw; go_simp <;> with_reducible rfl
        simp only [Act.put, List.setIfInBounds_toArray, List.set_cons_zero, List.set_cons_succ]
        refine wpAnyH_yes (i := 3) (d := 19) (v := ?_) rfl rfl (by kernel_rfl) (by kernel_rfl) (by kernel_rfl) (fun _ _ _ h => h) (by rfl) ?_ rfl ?_
        rotate_left
        · intro w' hSw; subst hSw; go_simp <;> with_reducible rfl
        simp only [Act.put, List.setIfInBounds_toArray, List.set_cons_zero, List.set_cons_succ]
        refine wpAnyH_yes (i := 4) (d := 20) (v := ?_) rfl rfl (by kernel_rfl) (by kernel_rfl) (by kernel_rfl) (fun _ _ _ h => h) (by rfl) ?_ rfl ?_
        rotate_left
        · intro w' hSw; subst hSw; go_simp <;> with_reducible rfl
        simp only [Act.put, List.setIfInBounds_toArray, List.set_cons_zero, List.set_cons_succ]
        refine wpAnyH_yes (i := 5) (d := 21) (v := ?_) rfl rfl (by kernel_rfl) (by kernel_rfl) (by kernel_rfl) (fun _ _ _ h => h) (by rfl) ?_ rfl ?_
        rotate_left
        · intro w' hSw; subst hSw; go_simp <;> with_reducible rfl
        simp only [Act.put, List.setIfInBounds_toArray, List.set_cons_zero, List.set_cons_succ]
        refine wpAnyH_yes (i := 6) (d := 22) (v := ?_) rfl rfl (by kernel_rfl) (by kernel_rfl) (by kernel_rfl) (fun _ _ _ h => h) (by rfl) ?_ rfl ?_
        rotate_left
        · intro w' hSw; subst hSw; go_simp <;> with_reducible rfl
        simp only [Act.put, List.setIfInBounds_toArray, List.set_cons_zero, List.set_cons_succ]
        refine wpAnyH_yes (i := 7) (d := 23) (v := ?_) rfl rfl (by kernel_rfl) (by kernel_rfl) (by kernel_rfl) (fun _ _ _ h => h) (by rfl) ?_ rfl ?_
        rotate_left
        · intro w' hSw; subst hSw; go_simp <;> with_reducible rfl
        simp only [Act.put, List.setIfInBounds_toArray, List.set_cons_zero, List.set_cons_succ]
        refine wpAnyH_yes (i := 8) (d := 24) (v := .bool (!decide ((⟨xi, xa⟩ : Lk) = (⟨yi, ya⟩ : Lk)))) rfl rfl (by kernel_rfl) (by kernel_rfl) (by kernel_rfl) (fun _ _ _ h => h) (by rfl) ?_ rfl ?_
        · intro w' hSw; subst hSw; go_simp
          by_cases a0 : xi = yi <;> by_cases a1 : xa = ya <;> simp [a0, a1]
        simp only [Act.put, List.setIfInBounds_toArray, List.set_cons_zero, List.set_cons_succ]
        refine wpAnyH_done (by kernel_rfl) ?_ _
        clear c0 c1 b0 b1 w5
        by_cases hxy : (⟨xi, xa⟩ : Lk) = (⟨yi, ya⟩ : Lk)
        · have hd : (!decide ((⟨xi, xa⟩ : Lk) = (⟨yi, ya⟩ : Lk))) = false := by rw [decide_eq_true hxy]; rfl
          rw [hd]
          have HQ : Hid (es.take (k + 1) = fs.take (k + 1)) := by
            show _ = _
            rw [List.take_succ_eq_append_getElem hk', List.take_succ_eq_append_getElem hk2, HX.out, HY.out, HA.out, hxy]
          clear hd hxy HX HY
          go_wp2_with fail
          go_roundg (n - (k + 1))
          case measure => omega
          case rel => exact ⟨k + 1, by omega, Nat.le_refl _, by go_num, HG.out.drew, HQ⟩
        · have hd : (!decide ((⟨xi, xa⟩ : Lk) = (⟨yi, ya⟩ : Lk))) = true := by rw [decide_eq_false hxy]; rfl
          rw [hd]
          have HQ : Hid (es ≠ fs) := by
            show _ ≠ _
            intro e
            subst e
            exact hxy (HX.out.symm.trans HY.out)
          clear hd hxy HX HY
          go_wp2_with fail
          go_ret
          exact ⟨ret_b (decide_eq_false HQ.out).symm, HG.out.drew⟩
      · have hkn : Hid (k = n) := by show k = n; omega
        go_wp2_with fail
        go_ret
        refine ⟨ret_b (decide_eq_true ?_).symm, HG.out⟩
        have := HA.out
        rwa [hkn.out, List.take_of_length_le (by rw [HN.out]; exact Nat.le_refl _), List.take_of_length_le (by rw [HN'.out]; exact Nat.le_refl _)] at this
  · have v1 : ((n : Int) == (n' : Int)) = false := beq_eq_false_iff_ne.2 (by omega)
    go_enter Tryz.func68, Tryz.ntmps68
    go_wp2_with fail
    go_ret
    exact ⟨ret_b (decide_eq_false fun e => hne (by rw [← HN.out, ← HN'.out, e])).symm, Grown.refl _⟩
end Go.Proofs.YtoffnfooeojhnaaGreat
namespace Go.Proofs.YtoffnfooeojhnaaGreat
open Go.RowKit Go.Sort Spans Tb
set_option maxRecDepth 100000 in
theorem follows_at (a b : Int) (w : World) (q : Bool) (hq : (decide (a < b) && decide (b ≤ 1073741824)) = q) : Calls Tryz.prog 107 #[.int .i64 a, .int .i64 b] w fun e w' => e = .returned (.bool q) ∧ w' = w := by
  subst hq
  by_cases h1 : a < b
  · have d1 : decide (a < b) = true := decide_eq_true h1
    by_cases h2 : b ≤ 1073741824
    · have d2 : decide (b ≤ 1073741824) = true := decide_eq_true h2
      go_enter Tryz.func107, Tryz.ntmps107
      go_wp2_with fail
      go_ret
      exact ⟨ret_b (by simp [h1, h2]), rfl⟩
    · have d2 : decide (b ≤ 1073741824) = false := decide_eq_false h2
      go_enter Tryz.func107, Tryz.ntmps107
      go_wp2_with fail
      go_ret
      exact ⟨ret_b (by simp), rfl⟩
  · have d1 : decide (a < b) = false := decide_eq_false h1
    go_enter Tryz.func107, Tryz.ntmps107
    go_wp2_with fail
    go_ret
    exact ⟨ret_b (by simp), rfl⟩
abbrev lkV (a : Lk) : Value := .agg #[.int .i64 a.id, .string ⟨a.ad.toArray⟩]
set_option maxRecDepth 100000 in
set_option maxHeartbeats 2000000 in
theorem link_at (s : Sx) (i : Int) (hn : s.ls.length = s.n) (hm : s.n ≤ 100000) (w : World) (hr : RdLk w s.A s.ls) (r : Option Lk) (hq : findL s.ls i = r) :
    Calls Tryz.prog 37 #[s.v, .int .i64 i] w fun e w' => e = .returned (.tuple #[lkV (r.getD ⟨0, []⟩), .bool r.isSome]) ∧ Below w.heap.size w w' := by
  obtain ⟨ep, A, n, c, ls, A1, n1, c1, av, A2, n2, c2, su⟩ := s
  dsimp only at *
  have HN := Lib.hid hn
  have HQ := Lib.hid hq
  have HR := Lib.hid hr
  have hB0 := (gr2 w (.cells #[.int .i64 ep, .slice A n c, .slice A1 n1 c1, .slice A2 n2 c2] 52) (.cells #[.int .i64 0, .string ⟨#[]⟩] 64)).below
  have hX0 := (Blk.new w 52 #[.int .i64 ep, .slice A n c, .slice A1 n1 c1, .slice A2 n2 c2]).alloc (.cells #[.int .i64 0, .string ⟨#[]⟩] 64)
  have hY0 := Blk.new (w.alloc (.cells #[.int .i64 ep, .slice A n c, .slice A1 n1 c1, .slice A2 n2 c2] 52)) 64 #[.int .i64 0, .string ⟨#[]⟩]
  rw [show (w.alloc (.cells #[.int .i64 ep, .slice A n c, .slice A1 n1 c1, .slice A2 n2 c2] 52)).heap.size = w.heap.size + 1 by simp] at hY0
  obtain ⟨x0, x1, x2, x3, _⟩ := blk4 hX0
  have HB0 := Lib.hid hB0
  have HY0 := Lib.hid hY0
  clear hn hq hr hB0 hX0 hY0
  go_enter Tryz.func37, Tryz.ntmps37
  go_wp2_with fail
  clear x0 x1 x2 x3
  generalize (w.alloc (.cells #[.int .i64 ep, .slice A n c, .slice A1 n1 c1, .slice A2 n2 c2] 52)).alloc (.cells #[.int .i64 0, .string ⟨#[]⟩] 64) = w0 at *
  go_loopg [11] n (fun gg s11 wr => ∃ k : Nat, k ≤ n ∧ n - k ≤ gg ∧ s11 = .int .i64 (k : Int) ∧ Hid (Below w.heap.size w wr) ∧ Hid (Blk wr (w.heap.size + 1) 64 #[.int .i64 0, .string ⟨#[]⟩]) ∧ Hid (∀ x ∈ ls.take k, x.id ≠ i))
  case atStart => exact ⟨0, Nat.zero_le _, by omega, rfl, HB0, HY0, by show ∀ _, _; simp⟩
  case round =>
    obtain ⟨k, hk, hgg, rfl, HB, HY, HA⟩ := hrel
    clear HB0 HY0
    by_cases hlt : k < n
    · have hk' : k < ls.length := by rw [HN.out]; exact hlt
      obtain ⟨g, off, rfl, hg, c0, c1⟩ := RdLk.at2 (RdK.below HR.out HB.out) hk'
      obtain ⟨x, hx⟩ : ∃ x, ls[k] = x := ⟨_, rfl⟩
      have HX := Lib.hid hx
      rw [hx] at c0 c1
      clear hx
      obtain ⟨xi, xa⟩ := x
      dsimp only at c0 c1
      have w5 : (k : Int) < (n : Int) := by omega
      have hB1 := HB.out.alloc HB.out.size (.cells #[.int .i64 xi, .string ⟨xa.toArray⟩] 64)
      have hY1 := HY.out.alloc (.cells #[.int .i64 xi, .string ⟨xa.toArray⟩] 64)
      have HB1 := Lib.hid hB1
      have HY1 := Lib.hid hY1
      have hwr : w.heap.size + 1 < wr.heap.size := HY.out.lt
      clear hB1 hY1
      by_cases hxi : xi = i
      · have hd : (xi == i) = true := beq_iff_eq.2 hxi
        have HF : Hid (r = some ⟨xi, xa⟩) := by
          show _ = _
          rw [← HQ.out]
          have hsp : ls = ls.take k ++ ⟨xi, xa⟩ :: ls.drop (k + 1) := by
            have := HX.out
            rw [← this, List.getElem_cons_drop hk', List.take_append_drop]
          unfold findL
          rw [hsp, List.find?_append, List.find?_eq_none.2 (fun x hx => by simpa using HA.out x hx)]
          simp [hxi]
        obtain ⟨y0, y1, q0, q1⟩ := blk2 HY.out
        obtain ⟨y2, y3, _⟩ := blk2 HY1.out
        have hly := HY.out.lt
        have hne : w.heap.size + 1 ≠ wr.heap.size := by omega
        clear hxi
        go_wp2_with fail
        refine bodyPost_ret (v := .tuple #[lkV ⟨xi, xa⟩, .bool true]) (by simp [results, Tryz.results37, go_sem, y0, y1, hly]) rfl ?_
        refine ⟨by rw [HF.out]; rfl, ?_⟩
        have hb := below_put2 HB.out (Nat.le_succ w.heap.size) (.int .i64 xi) (.string ⟨xa.toArray⟩)
        exact hb.alloc hb.size _
      · have hd : (xi == i) = false := beq_eq_false_iff_ne.2 hxi
        have HA2 : Hid (∀ x ∈ ls.take (k + 1), x.id ≠ i) := fun x hx => by
          rw [List.take_succ_eq_append_getElem hk', HX.out] at hx
          rcases List.mem_append.1 hx with h | h
          · exact HA.out x h
          · simp at h; subst h; exact hxi
        clear hxi
        go_wp2_with fail
        go_roundg (n - (k + 1))
        case measure => omega
        case rel => exact ⟨k + 1, by omega, Nat.le_refl _, by go_num, HB1, HY1, HA2⟩
    · have hkn : Hid (k = n) := by show k = n; omega
      have HF : Hid (r = none) := by
        show _ = _
        rw [← HQ.out]
        refine List.find?_eq_none.2 fun x hx => ?_
        have := HA.out x (by rw [hkn.out, List.take_of_length_le (by rw [HN.out]; exact Nat.le_refl _)]; exact hx)
        simpa using this
      obtain ⟨y0, y1, q0, q1⟩ := blk2 HY.out
      have hly := HY.out.lt
      go_wp2_with fail
      refine bodyPost_ret (v := .tuple #[lkV ⟨0, []⟩, .bool false]) (by simp [results, Tryz.results37, go_sem, y0, y1]) rfl ?_
      refine ⟨by rw [HF.out]; rfl, ?_⟩
      exact below_put2 HB.out (Nat.le_succ w.heap.size) _ _
end Go.Proofs.YtoffnfooeojhnaaGreat
namespace Go.Proofs.YtoffnfooeojhnaaGreat
open Go.RowKit Go.Sort Spans Tb
abbrev exV (x : Ex) : Value := .agg #[.int .i64 x.id, .int .i64 x.fr, .slice x.A x.n x.c]
/-- What tells an entry in new memory. -/
def GivesE (w : World) (e : En) (en : Ending) (w' : World) : Prop := ∃ y : Ex, en = .returned (exV y) ∧ y.en = e ∧ FltO w' w.heap.size y ∧ Below w.heap.size w w'
theorem cells3 {w : World} {g : Nat} {t : TypeId} {a b c : Value} (hB : Blk w g t #[a, b, c]) :
    w.cell? ⟨g, 0, none⟩ = some a ∧ w.cell? ⟨g, 1, none⟩ = some b ∧ w.cell? ⟨g, 2, none⟩ = some c := ⟨hB.cell 0, hB.cell 1, hB.cell 2⟩
set_option maxRecDepth 100000 in
set_option maxHeartbeats 2000000 in
theorem copyEntry_at (id fr : Int) (A : Option Addr) (n c : Nat) (f : List Pr) (hn : f.length = n) (hm : n ≤ 100000) (w : World) (hr : RdQ w A f) :
    Calls Tryz.prog 73 #[.agg #[.int .i64 id, .int .i64 fr, .slice A n c]] w (GivesE w ⟨id, fr, f⟩) := by
  have HN := Lib.hid hn
  have HR := Lib.hid hr
  have hB0 := (gr2 w (.cells #[.int .i64 id, .int .i64 fr, .slice A n c] 58) (.cells #[.int .i64 0, .int .i64 0, .slice none 0 0] 58)).below
  have hX0 := (Blk.new w 58 #[.int .i64 id, .int .i64 fr, .slice A n c]).alloc (.cells #[.int .i64 0, .int .i64 0, .slice none 0 0] 58)
  have hY0 := Blk.new (w.alloc (.cells #[.int .i64 id, .int .i64 fr, .slice A n c] 58)) 58 #[.int .i64 0, .int .i64 0, .slice none 0 0]
  rw [show (w.alloc (.cells #[.int .i64 id, .int .i64 fr, .slice A n c] 58)).heap.size = w.heap.size + 1 by simp] at hY0
  have hR0 := RdK.below HR.out hB0
  have hs0 : ((w.alloc (.cells #[.int .i64 id, .int .i64 fr, .slice A n c] 58)).alloc (.cells #[.int .i64 0, .int .i64 0, .slice none 0 0] 58)).heap.size = w.heap.size + 2 := by simp
  clear hn hr
  go_enter Tryz.func73, Tryz.ntmps73
  go_wp2_with fail
  generalize (w.alloc (.cells #[.int .i64 id, .int .i64 fr, .slice A n c] 58)).alloc (.cells #[.int .i64 0, .int .i64 0, .slice none 0 0] 58) = w0 at *
  have hS0 : Blk w0.drew w.heap.size 58 #[.int .i64 id, .int .i64 fr, .slice A n c] := hX0
  refine wp_region_held_drew (S := fun w' => Blk w' w.heap.size 58 #[.int .i64 id, .int .i64 fr, .slice A n c]) (by kernel_rfl) hS0 (fun _ => ?_)
  refine wpAnyH_yes (i := 0) (d := 3) (v := ?_) rfl rfl (by kernel_rfl) (by kernel_rfl) (by kernel_rfl) (fun _ _ _ h => h) (by rfl) ?_ hS0 ?_
  rotate_left
  · intro w' hSw; obtain ⟨r0, r1, r2⟩ := cells3 hSw; go_simp <;> with_reducible rfl
  simp only [Act.put, List.setIfInBounds_toArray, List.set_cons_zero, List.set_cons_succ]
  refine wpAnyH_yes (i := 1) (d := 4) (v := ?_) rfl rfl (by kernel_rfl) (by kernel_rfl) (by kernel_rfl) (fun _ _ _ h => h) (by rfl) ?_ hS0 ?_
  rotate_left
  · intro w' hSw; obtain ⟨r0, r1, r2⟩ := cells3 hSw; go_simp <;> with_reducible rfl
  simp only [Act.put, List.setIfInBounds_toArray, List.set_cons_zero, List.set_cons_succ]
  refine wpAnyH_yes (i := 2) (d := 5) (v := ?_) rfl rfl (by kernel_rfl) (by kernel_rfl) (by kernel_rfl) (fun _ _ _ h => h) (by rfl) ?_ hS0 ?_
  rotate_left
  · intro w' hSw; obtain ⟨r0, r1, r2⟩ := cells3 hSw; go_simp <;> with_reducible rfl
  simp only [Act.put, List.setIfInBounds_toArray, List.set_cons_zero, List.set_cons_succ]
  refine wpAnyH_yes (i := 3) (d := 6) (v := ?_) rfl rfl (by kernel_rfl) (by kernel_rfl) (by kernel_rfl) (fun _ _ _ h => h) (by rfl) ?_ hS0 ?_
  rotate_left
  · intro w' hSw; obtain ⟨r0, r1, r2⟩ := cells3 hSw; go_simp <;> with_reducible rfl
  simp only [Act.put, List.setIfInBounds_toArray, List.set_cons_zero, List.set_cons_succ]
  refine wpAnyH_yes (i := 4) (d := 7) (v := ?_) rfl rfl (by kernel_rfl) (by kernel_rfl) (by kernel_rfl) (fun _ _ _ h => h) (by rfl) ?_ hS0 ?_
  rotate_left
  · intro w' hSw; obtain ⟨r0, r1, r2⟩ := cells3 hSw; go_simp <;> with_reducible rfl
  simp only [Act.put, List.setIfInBounds_toArray, List.set_cons_zero, List.set_cons_succ]
  refine wpAnyH_yes (i := 5) (d := 8) (v := ?_) rfl rfl (by kernel_rfl) (by kernel_rfl) (by kernel_rfl) (fun _ _ _ h => h) (by rfl) ?_ hS0 ?_
  rotate_left
  · intro w' hSw; obtain ⟨r0, r1, r2⟩ := cells3 hSw; go_simp <;> with_reducible rfl
  simp only [Act.put, List.setIfInBounds_toArray, List.set_cons_zero, List.set_cons_succ]
  refine wpAnyH_one (i := 6) (by kernel_rfl) rfl (by rfl) (fun K hK => ?_)
  have hR1 : RdQ w0.drew A f := hR0
  have hY1 : Blk w0.drew (w.heap.size + 1) 58 #[.int .i64 0, .int .i64 0, .slice none 0 0] := hY0
  have hB1 : Below w.heap.size w w0.drew := hB0.drew
  have hs1 : w0.drew.heap.size = w.heap.size + 2 := hs0
  clear hR0 hY0 hB0 hX0 hs0
  have hO0 : OwnQ w0.drew (w.heap.size + 2) (.slice none 0 0) [] := OwnK.none_ _ _
  generalize w0.drew = w1 at *
  refine op_append_k layP (.const (.slice none 0 0)) (.tmp 8) 22 underQ (by rfl) (w.heap.size + 2) (.slice none 0 0) [] (by rfl) hO0 A f n c (by rfl) hR1 HN.out (by rw [maxLen_num]; simp; omega) (by show (0 + n) * 56 ≤ _; omega) (by omega) ?_
  intro v2 w2 ho2 hb2
  rw [List.nil_append] at ho2
  have hBB : Below (w.heap.size + 2) w1 w2 := hb2 w1 (Below.refl _ _)
  have hX2 : Blk w2 w.heap.size 58 #[.int .i64 id, .int .i64 fr, .slice A n c] := Blk.below hS0 (hBB.mono (by omega)) (Nat.lt_succ_self _)
  have hY2 : Blk w2 (w.heap.size + 1) 58 #[.int .i64 0, .int .i64 0, .slice none 0 0] := Blk.below hY1 (hBB.mono (by omega)) (Nat.lt_succ_self _)
  have hB2 : Below w.heap.size w w2 := hB1.trans (hBB.mono (by omega))
  obtain ⟨A2, c2, hv2, hc2, hr2⟩ := OwnK.form ho2 HN.out
  subst hv2
  have HO2 := Lib.hid ho2
  have hs2 := hBB.size
  clear hb2 hR1 hO0 hBB hr2 ho2 hS0 hY1 hB1
  refine hK.out _ _ hX2 ?_
  clear hK K
  simp only [Act.put, List.setIfInBounds_toArray, List.set_cons_zero, List.set_cons_succ]
  refine wpAnyH_yes (i := 7) (d := 10) (v := ?_) rfl rfl (by kernel_rfl) (by kernel_rfl) (by kernel_rfl) (fun _ _ _ h => h) (by rfl) ?_ hX2 ?_
  rotate_left
  · intro w' hSw; obtain ⟨r0, r1, r2⟩ := cells3 hSw; go_simp <;> with_reducible rfl
  simp only [Act.put, List.setIfInBounds_toArray, List.set_cons_zero, List.set_cons_succ]
  refine wpAnyH_one (i := 8) (by kernel_rfl) rfl (by rfl) (fun K hK => ?_)
  obtain ⟨y0, y1, y2, q0, q1, q2⟩ := blk3 hY2
  have hly := hY2.lt
  go_simp
  have hX3 : Blk (((w2.setCell ⟨w.heap.size + 1, 0, none⟩ (.int .i64 id)).setCell ⟨w.heap.size + 1, 1, none⟩ (.int .i64 fr)).setCell ⟨w.heap.size + 1, 2, none⟩ (.slice A2 n c2)) w.heap.size 58 #[.int .i64 id, .int .i64 fr, .slice A n c] := Blk.far3 hX2 (by omega) _ _ _
  refine hK.out _ _ hX3 ?_
  clear hK K
  refine wpAnyH_done (by kernel_rfl) ?_ _
  go_wp2_with fail
  refine bodyPost_ret (v := exV ⟨id, fr, A2, n, c2, f⟩) (by simp [results, Tryz.results73, go_sem, y0, y1, y2]) rfl ?_
  exact ⟨⟨id, fr, A2, n, c2, f⟩, rfl, rfl, ⟨HN.out, hc2, (OwnK.put3 HO2.out (by omega) _ _ _).less (by omega)⟩, below_put3 hB2 (Nat.le_succ w.heap.size) _ _ _⟩
end Go.Proofs.YtoffnfooeojhnaaGreat
namespace Go.Proofs.YtoffnfooeojhnaaGreat
open Go.RowKit Go.Sort Spans Tb
theorem map_snoc {α β : Type} (g : α → β) {l : List α} {k : Nat} (h : k < l.length) : (l.take (k + 1)).map g = (l.take k).map g ++ [g l[k]] := by
  rw [List.take_succ_eq_append_getElem h, List.map_append]; rfl
set_option maxRecDepth 100000 in
set_option maxHeartbeats 1000000 in
theorem sameEntry_at (x y : Ex) (hx : x.f.length = x.n) (hmx : x.n ≤ 100000) (hy : y.f.length = y.n) (hmy : y.n ≤ 100000) (w : World) (hr : RdQ w x.A x.f) (hr' : RdQ w y.A y.f) (q : Bool) (hq : decide (x.en = y.en) = q) :
    Calls Tryz.prog 106 #[exV x, exV y] w fun e w' => e = .returned (.bool q) ∧ Below w.heap.size w w' := by
  obtain ⟨xi, xr, xA, xn, xc, xf⟩ := x
  obtain ⟨yi, yr, yA, yn, yc, yf⟩ := y
  dsimp only at *
  have HX := Lib.hid hx
  have HY := Lib.hid hy
  have HQ := Lib.hid hq
  have hB0 := (gr2 w (.cells #[.int .i64 xi, .int .i64 xr, .slice xA xn xc] 58) (.cells #[.int .i64 yi, .int .i64 yr, .slice yA yn yc] 58)).below
  have hX0 := (Blk.new w 58 #[.int .i64 xi, .int .i64 xr, .slice xA xn xc]).alloc (.cells #[.int .i64 yi, .int .i64 yr, .slice yA yn yc] 58)
  have hY0 := Blk.new (w.alloc (.cells #[.int .i64 xi, .int .i64 xr, .slice xA xn xc] 58)) 58 #[.int .i64 yi, .int .i64 yr, .slice yA yn yc]
  rw [show (w.alloc (.cells #[.int .i64 xi, .int .i64 xr, .slice xA xn xc] 58)).heap.size = w.heap.size + 1 by simp] at hY0
  have HR0 := Lib.hid (RdK.below hr hB0)
  have HR0' := Lib.hid (RdK.below hr' hB0)
  have HB0 := Lib.hid hB0
  obtain ⟨x0, x1, x2⟩ := cells3 hX0
  obtain ⟨y0, y1, y2⟩ := cells3 hY0
  have hl1 := hX0.lt
  have hl2 := hY0.lt
  clear hx hy hq hB0 hX0 hY0 hr hr'
  by_cases h1 : xi = yi
  · have d1 : (xi == yi) = true := beq_iff_eq.2 h1
    by_cases h2 : xr = yr
    · have d2 : (xr == yr) = true := beq_iff_eq.2 h2
      have HF : Hid (decide (xf = yf) = q) := by
        show _ = _
        rw [← HQ.out]
        simp [h1, h2]
      clear h1 h2
      go_enter Tryz.func106, Tryz.ntmps106
      go_wp2_with fail
      refine (equalP_at xA xf xn xc HX.out hmx yA yf yn yc HY.out hmy _ HR0.out HR0'.out q HF.out).mono ?_
      rintro e w2 ⟨rfl, hg2⟩
      have HB2 := Lib.hid (below_next HB0.out (by have := HB0.out.size; omega) hg2.below)
      clear hg2 x0 x1 x2 y0 y1 y2
      go_wp2_with fail
      go_ret
      exact ⟨rfl, HB2.out⟩
    · have d2 : (xr == yr) = false := beq_eq_false_iff_ne.2 h2
      have HF : Hid (false = q) := by
        show _ = _
        rw [← HQ.out]
        simp [h2]
      clear h1 h2
      go_enter Tryz.func106, Tryz.ntmps106
      go_wp2_with fail
      go_ret
      exact ⟨ret_b HF.out, HB0.out⟩
  · have d1 : (xi == yi) = false := beq_eq_false_iff_ne.2 h1
    have HF : Hid (false = q) := by
      show _ = _
      rw [← HQ.out]
      simp [h1]
    clear h1
    go_enter Tryz.func106, Tryz.ntmps106
    go_wp2_with fail
    go_ret
    exact ⟨ret_b HF.out, HB0.out⟩
set_option maxRecDepth 100000 in
set_option maxHeartbeats 1000000 in
theorem one_at (x y : Ex) (hx : x.f.length = x.n) (hmx : x.n ≤ 100000) (hy : y.f.length = y.n) (hmy : y.n ≤ 100000) (w : World) (hr : RdQ w x.A x.f) (hr' : RdQ w y.A y.f) (q : Bool) (hq : decide (x.en = y.en) = q) :
    Calls Tryz.prog 36 #[exV x, exV y] w fun e w' => e = .returned (.bool q) ∧ Below w.heap.size w w' := by
  obtain ⟨xi, xr, xA, xn, xc, xf⟩ := x
  obtain ⟨yi, yr, yA, yn, yc, yf⟩ := y
  dsimp only at *
  have HX := Lib.hid hx
  have HY := Lib.hid hy
  have HQ := Lib.hid hq
  have hB0 := (gr2 w (.cells #[.int .i64 xi, .int .i64 xr, .slice xA xn xc] 58) (.cells #[.int .i64 yi, .int .i64 yr, .slice yA yn yc] 58)).below
  have hX0 := (Blk.new w 58 #[.int .i64 xi, .int .i64 xr, .slice xA xn xc]).alloc (.cells #[.int .i64 yi, .int .i64 yr, .slice yA yn yc] 58)
  have hY0 := Blk.new (w.alloc (.cells #[.int .i64 xi, .int .i64 xr, .slice xA xn xc] 58)) 58 #[.int .i64 yi, .int .i64 yr, .slice yA yn yc]
  rw [show (w.alloc (.cells #[.int .i64 xi, .int .i64 xr, .slice xA xn xc] 58)).heap.size = w.heap.size + 1 by simp] at hY0
  have HR0 := Lib.hid (RdK.below hr hB0)
  have HR0' := Lib.hid (RdK.below hr' hB0)
  have HB0 := Lib.hid hB0
  obtain ⟨x0, x1, x2⟩ := cells3 hX0
  obtain ⟨y0, y1, y2⟩ := cells3 hY0
  have hl1 := hX0.lt
  have hl2 := hY0.lt
  clear hx hy hq hB0 hX0 hY0 hr hr'
  by_cases h1 : xi = yi
  · have d1 : (xi == yi) = true := beq_iff_eq.2 h1
    by_cases h2 : xr = yr
    · have d2 : (xr == yr) = true := beq_iff_eq.2 h2
      have HF : Hid (decide (xf = yf) = q) := by
        show _ = _
        rw [← HQ.out]
        simp [h1, h2]
      clear h1 h2
      go_enter Tryz.func36, Tryz.ntmps36
      go_wp2_with fail
      refine (samePs_at xA xf xn xc HX.out hmx yA yf yn yc HY.out hmy _ HR0.out HR0'.out q HF.out).mono ?_
      rintro e w2 ⟨rfl, hg2⟩
      have HB2 := Lib.hid (below_next HB0.out (by have := HB0.out.size; omega) hg2.below)
      clear hg2 x0 x1 x2 y0 y1 y2
      go_wp2_with fail
      go_ret
      exact ⟨rfl, HB2.out⟩
    · have d2 : (xr == yr) = false := beq_eq_false_iff_ne.2 h2
      have HF : Hid (false = q) := by
        show _ = _
        rw [← HQ.out]
        simp [h2]
      clear h1 h2
      go_enter Tryz.func36, Tryz.ntmps36
      go_wp2_with fail
      go_ret
      exact ⟨ret_b HF.out, HB0.out⟩
  · have d1 : (xi == yi) = false := beq_eq_false_iff_ne.2 h1
    have HF : Hid (false = q) := by
      show _ = _
      rw [← HQ.out]
      simp [h1]
    clear h1
    go_enter Tryz.func36, Tryz.ntmps36
    go_wp2_with fail
    go_ret
    exact ⟨ret_b HF.out, HB0.out⟩
/-- Filters that are not too long for a walk. -/
def Short (xs : List Ex) : Prop := ∀ x ∈ xs, x.n ≤ 100000
set_option maxRecDepth 100000 in
set_option maxHeartbeats 1000000 in
theorem equalF_at (A : Option Addr) (es : List Ex) (n c : Nat) (hn : es.length = n) (hm : n ≤ 100000) (hs : Short es) (A' : Option Addr) (fs : List Ex) (n' c' : Nat) (hn' : fs.length = n') (hm' : n' ≤ 100000) (hs' : Short fs) (w : World) (hr : RdEn w A es) (hr' : RdEn w A' fs) (q : Bool) (hq : decide (es.map Ex.en = fs.map Ex.en) = q) :
    Calls Tryz.prog 105 #[.slice A n c, .slice A' n' c', .func (.func 106) #[] #[]] w fun e w' => e = .returned (.bool q) ∧ Below w.heap.size w w' := by
  subst hq
  have HN := Lib.hid hn
  have HN' := Lib.hid hn'
  have HR := Lib.hid hr
  have HR' := Lib.hid hr'
  have HS := Lib.hid hs
  have HS' := Lib.hid hs'
  clear hn hn' hr hr' hs hs'
  by_cases hne : n = n'
  · subst hne
    go_enter Tryz.func105, Tryz.ntmps105
    go_wp2_with fail
    go_loopg [17] n (fun gg s8 wr => ∃ k : Nat, k ≤ n ∧ n - k ≤ gg ∧ s8 = .int .i64 (k : Int) ∧ Hid (Below w.heap.size w wr) ∧ Hid ((es.take k).map Ex.en = (fs.take k).map Ex.en))
    case atStart => exact ⟨0, Nat.zero_le _, by omega, rfl, Below.refl _ _, by show _ = _; simp⟩
    case round =>
      obtain ⟨k, hk, hgg, rfl, HB, HA⟩ := hrel
      by_cases hlt : k < n
      · have hk' : k < es.length := by rw [HN.out]; exact hlt
        have hk2 : k < fs.length := by rw [HN'.out]; exact hlt
        obtain ⟨g, off, rfl, hg, c0, c1, c2, hf⟩ := RdEn.at3 (HR.out.below HB.out) hk'
        obtain ⟨g', off', rfl, hg', b0, b1, b2, hf'⟩ := RdEn.at3 (HR'.out.below HB.out) hk2
        have hsx := HS.out _ (List.getElem_mem hk')
        have hsy := HS'.out _ (List.getElem_mem hk2)
        obtain ⟨x, hx⟩ : ∃ x, es[k] = x := ⟨_, rfl⟩
        obtain ⟨y, hy⟩ : ∃ y, fs[k] = y := ⟨_, rfl⟩
        have HX := Lib.hid hx
        have HY := Lib.hid hy
        rw [hx] at c0 c1 c2 hf hsx
        rw [hy] at b0 b1 b2 hf' hsy
        clear hx hy
        obtain ⟨xi, xr, xA, xn, xc, xf⟩ := x
        obtain ⟨yi, yr, yA, yn, yc, yf⟩ := y
        dsimp only at c0 c1 c2 b0 b1 b2 hsx hsy
        have w5 : (k : Int) < (n : Int) := by omega
        have hB1 := (gr2 wr (.cells #[.int .i64 xi, .int .i64 xr, .slice xA xn xc] 58) (.cells #[.int .i64 yi, .int .i64 yr, .slice yA yn yc] 58)).below
        have HC := Lib.hid (fun q hq => sameEntry_at ⟨xi, xr, xA, xn, xc, xf⟩ ⟨yi, yr, yA, yn, yc, yf⟩ hf.1 hsx hf'.1 hsy ((wr.alloc (.cells #[.int .i64 xi, .int .i64 xr, .slice xA xn xc] 58)).alloc (.cells #[.int .i64 yi, .int .i64 yr, .slice yA yn yc] 58)) (RdK.below hf.2.2 hB1) (RdK.below hf'.2.2 hB1) q hq)
        have HB1 := Lib.hid (below_next HB.out (Nat.le_refl _) hB1)
        have b0' := (Below.alloc (Below.refl wr.heap.size wr) (Nat.le_refl _) (.cells #[.int .i64 xi, .int .i64 xr, .slice xA xn xc] 58)).cell (p := ⟨g', off' + k * 3, none⟩) hg'
        have b1' := (Below.alloc (Below.refl wr.heap.size wr) (Nat.le_refl _) (.cells #[.int .i64 xi, .int .i64 xr, .slice xA xn xc] 58)).cell (p := ⟨g', off' + k * 3 + 1, none⟩) hg'
        have b2' := (Below.alloc (Below.refl wr.heap.size wr) (Nat.le_refl _) (.cells #[.int .i64 xi, .int .i64 xr, .slice xA xn xc] 58)).cell (p := ⟨g', off' + k * 3 + 2, none⟩) hg'
        rw [b0] at b0'
        rw [b1] at b1'
        rw [b2] at b2'
        clear hf hf' hB1 hsx hsy
        by_cases hxy : (⟨xi, xr, xf⟩ : En) = ⟨yi, yr, yf⟩
        · have HQ : Hid ((es.take (k + 1)).map Ex.en = (fs.take (k + 1)).map Ex.en) := by
            show _ = _
            rw [map_snoc _ hk', map_snoc _ hk2, HX.out, HY.out, HA.out]
            show _ ++ [(⟨xi, xr, xf⟩ : En)] = _
            rw [hxy]
          have hcall := HC.out true (decide_eq_true hxy)
          clear hxy HX HY HC
          go_wp2_with fail
          refine hcall.mono ?_
          rintro e w2 ⟨rfl, hb2⟩
          go_wp2_with fail
          have HB2 := Lib.hid (below_next HB1.out (by have := HB1.out.size; omega) hb2)
          go_roundg (n - (k + 1))
          case measure => omega
          case rel => exact ⟨k + 1, by omega, Nat.le_refl _, by go_num, HB2, HQ⟩
        · have HQ : Hid (es.map Ex.en ≠ fs.map Ex.en) := by
            show _ ≠ _
            intro e
            have h1 : (es.map Ex.en)[k]'(by simpa using hk') = (fs.map Ex.en)[k]'(by simpa using hk2) := by simp only [e]
            rw [List.getElem_map, List.getElem_map, HX.out, HY.out] at h1
            exact hxy h1
          have hcall := HC.out false (decide_eq_false hxy)
          clear hxy HX HY HC
          go_wp2_with fail
          refine hcall.mono ?_
          rintro e w2 ⟨rfl, hb2⟩
          go_wp2_with fail
          have HB2 := Lib.hid (below_next HB1.out (by have := HB1.out.size; omega) hb2)
          go_ret
          exact ⟨ret_b (decide_eq_false HQ.out).symm, HB2.out⟩
      · have hkn : Hid (k = n) := by show k = n; omega
        go_wp2_with fail
        go_ret
        refine ⟨ret_b (decide_eq_true ?_).symm, HB.out⟩
        have := HA.out
        rwa [hkn.out, List.take_of_length_le (by rw [HN.out]; exact Nat.le_refl _), List.take_of_length_le (by rw [HN'.out]; exact Nat.le_refl _)] at this
  · have v1 : ((n : Int) == (n' : Int)) = false := beq_eq_false_iff_ne.2 (by omega)
    go_enter Tryz.func105, Tryz.ntmps105
    go_wp2_with fail
    go_ret
    refine ⟨ret_b (decide_eq_false fun e => hne ?_).symm, Below.refl _ _⟩
    have := congrArg List.length e
    rw [List.length_map, List.length_map, HN.out, HN'.out] at this
    exact this
set_option maxRecDepth 100000 in
theorem sameEnts_at (A : Option Addr) (es : List Ex) (n c : Nat) (hn : es.length = n) (hm : n ≤ 100000) (hs : Short es) (A' : Option Addr) (fs : List Ex) (n' c' : Nat) (hn' : fs.length = n') (hm' : n' ≤ 100000) (hs' : Short fs) (w : World) (hr : RdEn w A es) (hr' : RdEn w A' fs) (q : Bool) (hq : decide (es.map Ex.en = fs.map Ex.en) = q) :
    Calls Tryz.prog 69 #[.slice A n c, .slice A' n' c'] w fun e w' => e = .returned (.bool q) ∧ Below w.heap.size w w' := by
  have hcall := equalF_at A es n c hn hm hs A' fs n' c' hn' hm' hs' w hr hr' q hq
  clear hn hn' hs hs' hr hr' hq
  go_enter Tryz.func69, Tryz.ntmps69
  go_wp2_with fail
  refine hcall.mono ?_
  rintro e w2 ⟨rfl, hb⟩
  go_wp2_with fail
  go_ret
  exact ⟨rfl, hb⟩
/-- A state that is not too long for a walk. -/
structure Sx.Few (s : Sx) : Prop where
  n : s.n ≤ 100000
  n1 : s.n1 ≤ 100000
  n2 : s.n2 ≤ 100000
  av : Short s.av
  su : Short s.su
set_option maxRecDepth 100000 in
set_option maxHeartbeats 2000000 in
theorem same_st (s t : Sx) (ls : s.Len) (lt : t.Len) (fs : s.Few) (ft : t.Few) (w : World) (hr : s.Rd w) (hr' : t.Rd w) (q : Bool) (hq : decide (s.bk = t.bk) = q) :
    Calls Tryz.prog 32 #[s.v, t.v] w fun e w' => e = .returned (.bool q) ∧ Below w.heap.size w w' := by
  obtain ⟨se, sA, sn, sc, sl, sA1, sn1, sc1, sv, sA2, sn2, sc2, su⟩ := s
  obtain ⟨te, tA, tn, tc, tl, tA1, tn1, tc1, tv, tA2, tn2, tc2, tu⟩ := t
  have LS := Lib.hid ls
  have LT := Lib.hid lt
  have FS := Lib.hid fs
  have FT := Lib.hid ft
  have HQ := Lib.hid hq
  have hB0 := (gr2 w (.cells #[.int .i64 se, .slice sA sn sc, .slice sA1 sn1 sc1, .slice sA2 sn2 sc2] 52) (.cells #[.int .i64 te, .slice tA tn tc, .slice tA1 tn1 tc1, .slice tA2 tn2 tc2] 52)).below
  have hX0 := (Blk.new w 52 #[.int .i64 se, .slice sA sn sc, .slice sA1 sn1 sc1, .slice sA2 sn2 sc2]).alloc (.cells #[.int .i64 te, .slice tA tn tc, .slice tA1 tn1 tc1, .slice tA2 tn2 tc2] 52)
  have hY0 := Blk.new (w.alloc (.cells #[.int .i64 se, .slice sA sn sc, .slice sA1 sn1 sc1, .slice sA2 sn2 sc2] 52)) 52 #[.int .i64 te, .slice tA tn tc, .slice tA1 tn1 tc1, .slice tA2 tn2 tc2]
  rw [show (w.alloc (.cells #[.int .i64 se, .slice sA sn sc, .slice sA1 sn1 sc1, .slice sA2 sn2 sc2] 52)).heap.size = w.heap.size + 1 by simp] at hY0
  have HS := Lib.hid (hr.below hB0)
  have HT := Lib.hid (hr'.below hB0)
  have HB0 := Lib.hid hB0
  have HX0 := Lib.hid hX0
  have HY0 := Lib.hid hY0
  obtain ⟨x0, x1, x2, x3⟩ := blk4 hX0
  obtain ⟨y0, y1, y2, y3⟩ := blk4 hY0
  have hl1 := hX0.lt
  have hl2 := hY0.lt
  clear ls lt fs ft hr hr' hq hB0 hX0 hY0
  by_cases h0 : se = te
  · have d0 : (se == te) = true := beq_iff_eq.2 h0
    by_cases h1 : sl = tl
    · by_cases h2 : sv.map Ex.en = tv.map Ex.en
      · have HF : Hid (decide (su.map Ex.en = tu.map Ex.en) = q) := by
          show _ = _
          rw [← HQ.out]
          simp [h0, h1, h2]
        have H1 := Lib.hid h1
        have H2 := Lib.hid h2
        clear h0 h1 h2
        go_enter Tryz.func32, Tryz.ntmps32
        go_wp2_with fail
        refine (equalL_at sA sl sn sc LS.out.n FS.out.n tA tl tn tc LT.out.n FT.out.n _ HS.out.ls HT.out.ls true (decide_eq_true H1.out)).mono ?_
        rintro e w1 ⟨rfl, hgb⟩
        have hb := hgb.below
        clear hgb
        have HB1 := Lib.hid (below_next HB0.out (by have := HB0.out.size; omega) hb)
        have HX1 := Lib.hid (Blk.below HX0.out hb HX0.out.lt)
        have HY1 := Lib.hid (Blk.below HY0.out hb HY0.out.lt)
        have HS1 := Lib.hid (HS.out.below hb)
        have HT1 := Lib.hid (HT.out.below hb)
        clear hb x0 x1 x2 x3 y0 y1 y2 y3 hl1 hl2
        obtain ⟨x0, x1, x2, x3⟩ := blk4 HX1.out
        obtain ⟨y0, y1, y2, y3⟩ := blk4 HY1.out
        have hl1 := HX1.out.lt
        have hl2 := HY1.out.lt
        go_wp2_with fail
        refine (sameEnts_at sA1 sv sn1 sc1 LS.out.n1 FS.out.n1 FS.out.av tA1 tv tn1 tc1 LT.out.n1 FT.out.n1 FT.out.av _ HS1.out.av HT1.out.av true (decide_eq_true H2.out)).mono ?_
        rintro e w2 ⟨rfl, hb⟩
        have HB2 := Lib.hid (below_next HB1.out (by have := HB1.out.size; omega) hb)
        have HX2 := Lib.hid (Blk.below HX1.out hb HX1.out.lt)
        have HY2 := Lib.hid (Blk.below HY1.out hb HY1.out.lt)
        have HS2 := Lib.hid (HS1.out.below hb)
        have HT2 := Lib.hid (HT1.out.below hb)
        clear hb x0 x1 x2 x3 y0 y1 y2 y3 hl1 hl2
        obtain ⟨x0, x1, x2, x3⟩ := blk4 HX2.out
        obtain ⟨y0, y1, y2, y3⟩ := blk4 HY2.out
        have hl1 := HX2.out.lt
        have hl2 := HY2.out.lt
        go_wp2_with fail
        refine (sameEnts_at sA2 su sn2 sc2 LS.out.n2 FS.out.n2 FS.out.su tA2 tu tn2 tc2 LT.out.n2 FT.out.n2 FT.out.su _ HS2.out.su HT2.out.su q HF.out).mono ?_
        rintro e w3 ⟨rfl, hb⟩
        have HB3 := Lib.hid (below_next HB2.out (by have := HB2.out.size; omega) hb)
        have HX3 := Lib.hid (Blk.below HX2.out hb HX2.out.lt)
        have HY3 := Lib.hid (Blk.below HY2.out hb HY2.out.lt)
        have HS3 := Lib.hid (HS2.out.below hb)
        have HT3 := Lib.hid (HT2.out.below hb)
        clear hb x0 x1 x2 x3 y0 y1 y2 y3 hl1 hl2
        obtain ⟨x0, x1, x2, x3⟩ := blk4 HX3.out
        obtain ⟨y0, y1, y2, y3⟩ := blk4 HY3.out
        have hl1 := HX3.out.lt
        have hl2 := HY3.out.lt
        go_wp2_with fail
        go_ret
        exact ⟨rfl, HB3.out⟩
      · have H1 := Lib.hid h1
        have H2 := Lib.hid h2
        have HF : Hid (false = q) := by
          show _ = _
          rw [← HQ.out]
          exact (decide_eq_false fun e => h2 (by injection e)).symm
        clear h0 h1 h2
        go_enter Tryz.func32, Tryz.ntmps32
        go_wp2_with fail
        refine (equalL_at sA sl sn sc LS.out.n FS.out.n tA tl tn tc LT.out.n FT.out.n _ HS.out.ls HT.out.ls true (decide_eq_true H1.out)).mono ?_
        rintro e w1 ⟨rfl, hgb⟩
        have hb := hgb.below
        clear hgb
        have HB1 := Lib.hid (below_next HB0.out (by have := HB0.out.size; omega) hb)
        have HX1 := Lib.hid (Blk.below HX0.out hb HX0.out.lt)
        have HY1 := Lib.hid (Blk.below HY0.out hb HY0.out.lt)
        have HS1 := Lib.hid (HS.out.below hb)
        have HT1 := Lib.hid (HT.out.below hb)
        clear hb x0 x1 x2 x3 y0 y1 y2 y3 hl1 hl2
        obtain ⟨x0, x1, x2, x3⟩ := blk4 HX1.out
        obtain ⟨y0, y1, y2, y3⟩ := blk4 HY1.out
        have hl1 := HX1.out.lt
        have hl2 := HY1.out.lt
        go_wp2_with fail
        refine (sameEnts_at sA1 sv sn1 sc1 LS.out.n1 FS.out.n1 FS.out.av tA1 tv tn1 tc1 LT.out.n1 FT.out.n1 FT.out.av _ HS1.out.av HT1.out.av false (decide_eq_false H2.out)).mono ?_
        rintro e w2 ⟨rfl, hb⟩
        have HB2 := Lib.hid (below_next HB1.out (by have := HB1.out.size; omega) hb)
        have HX2 := Lib.hid (Blk.below HX1.out hb HX1.out.lt)
        have HY2 := Lib.hid (Blk.below HY1.out hb HY1.out.lt)
        have HS2 := Lib.hid (HS1.out.below hb)
        have HT2 := Lib.hid (HT1.out.below hb)
        clear hb x0 x1 x2 x3 y0 y1 y2 y3 hl1 hl2
        obtain ⟨x0, x1, x2, x3⟩ := blk4 HX2.out
        obtain ⟨y0, y1, y2, y3⟩ := blk4 HY2.out
        have hl1 := HX2.out.lt
        have hl2 := HY2.out.lt
        go_wp2_with fail
        go_ret
        exact ⟨ret_b HF.out, HB2.out⟩
    · have H1 := Lib.hid h1
      have HF : Hid (false = q) := by
        show _ = _
        rw [← HQ.out]
        exact (decide_eq_false fun e => h1 (by injection e)).symm
      clear h0 h1
      go_enter Tryz.func32, Tryz.ntmps32
      go_wp2_with fail
      refine (equalL_at sA sl sn sc LS.out.n FS.out.n tA tl tn tc LT.out.n FT.out.n _ HS.out.ls HT.out.ls false (decide_eq_false H1.out)).mono ?_
      rintro e w1 ⟨rfl, hgb⟩
      have hb := hgb.below
      clear hgb
      have HB1 := Lib.hid (below_next HB0.out (by have := HB0.out.size; omega) hb)
      have HX1 := Lib.hid (Blk.below HX0.out hb HX0.out.lt)
      have HY1 := Lib.hid (Blk.below HY0.out hb HY0.out.lt)
      have HS1 := Lib.hid (HS.out.below hb)
      have HT1 := Lib.hid (HT.out.below hb)
      clear hb x0 x1 x2 x3 y0 y1 y2 y3 hl1 hl2
      obtain ⟨x0, x1, x2, x3⟩ := blk4 HX1.out
      obtain ⟨y0, y1, y2, y3⟩ := blk4 HY1.out
      have hl1 := HX1.out.lt
      have hl2 := HY1.out.lt
      go_wp2_with fail
      go_ret
      exact ⟨ret_b HF.out, HB1.out⟩
  · have d0 : (se == te) = false := beq_eq_false_iff_ne.2 h0
    have HF : Hid (false = q) := by
      show _ = _
      rw [← HQ.out]
      exact (decide_eq_false fun e => h0 (by injection e)).symm
    clear h0
    go_enter Tryz.func32, Tryz.ntmps32
    go_wp2_with fail
    go_ret
    exact ⟨ret_b HF.out, HB0.out⟩
end Go.Proofs.YtoffnfooeojhnaaGreat
namespace Go.Proofs.YtoffnfooeojhnaaGreat
open Go.RowKit Go.Sort Spans Tb
/-- What Find tells. -/
def Finds (w : World) (r : Option En) (e : Ending) (w' : World) : Prop := ∃ y : Ex, e = .returned (.tuple #[exV y, .bool r.isSome]) ∧ y.en = r.getD ⟨0, 0, []⟩ ∧ FltO w' w.heap.size y ∧ Below w.heap.size w w'
set_option maxRecDepth 100000 in
set_option maxHeartbeats 2000000 in
theorem find_at (A : Option Addr) (es : List Ex) (n c : Nat) (i : Int) (hn : es.length = n) (hm : n ≤ 100000) (hs : Short es) (w : World) (hr : RdEn w A es) (r : Option En) (hq : findE (es.map Ex.en) i = r) :
    Calls Tryz.prog 35 #[.slice A n c, .int .i64 i] w (Finds w r) := by
  have HN := Lib.hid hn
  have HQ := Lib.hid hq
  have HR := Lib.hid hr
  have HS := Lib.hid hs
  have hB0 : Below w.heap.size w (w.alloc (.cells #[.int .i64 0, .int .i64 0, .slice none 0 0] 58)) := (gr1 w (.cells #[.int .i64 0, .int .i64 0, .slice none 0 0] 58)).below
  have hY0 := Blk.new w 58 #[.int .i64 0, .int .i64 0, .slice none 0 0]
  have HB0 := Lib.hid hB0
  have HY0 := Lib.hid hY0
  clear hn hq hr hs hB0 hY0
  go_enter Tryz.func35, Tryz.ntmps35
  go_wp2_with fail
  generalize w.alloc (.cells #[.int .i64 0, .int .i64 0, .slice none 0 0] 58) = w0 at *
  go_loopg [10] n (fun gg s11 wr => ∃ k : Nat, k ≤ n ∧ n - k ≤ gg ∧ s11 = .int .i64 (k : Int) ∧ Hid (Below w.heap.size w wr) ∧ Hid (Blk wr w.heap.size 58 #[.int .i64 0, .int .i64 0, .slice none 0 0]) ∧ Hid (∀ x ∈ es.take k, x.id ≠ i))
  case atStart => exact ⟨0, Nat.zero_le _, by omega, rfl, HB0, HY0, by show ∀ _, _; simp⟩
  case round =>
    obtain ⟨k, hk, hgg, rfl, HB, HY, HA⟩ := hrel
    clear HB0 HY0
    by_cases hlt : k < n
    · have hk' : k < es.length := by rw [HN.out]; exact hlt
      obtain ⟨g, off, rfl, hg, c0, c1, c2, hf⟩ := RdEn.at3 (HR.out.below HB.out) hk'
      have hsx := HS.out _ (List.getElem_mem hk')
      obtain ⟨x, hx⟩ : ∃ x, es[k] = x := ⟨_, rfl⟩
      have HX := Lib.hid hx
      rw [hx] at c0 c1 c2 hf hsx
      clear hx
      obtain ⟨xi, xr, xA, xn, xc, xf⟩ := x
      obtain ⟨hf1, hf2, hf3⟩ := hf
      dsimp only at c0 c1 c2 hsx hf1 hf2 hf3
      have w5 : (k : Int) < (n : Int) := by omega
      have hbA : Below wr.heap.size wr (wr.alloc (.cells #[.int .i64 xi, .int .i64 xr, .slice xA xn xc] 58)) := (gr1 wr (.cells #[.int .i64 xi, .int .i64 xr, .slice xA xn xc] 58)).below
      have HB1 := Lib.hid (below_next HB.out (Nat.le_refl _) hbA)
      have HY1 := Lib.hid (Blk.below HY.out hbA HY.out.lt)
      have HRX := Lib.hid (RdK.below hf3 hbA)
      have hwr : w.heap.size < wr.heap.size := HY.out.lt
      have HF1 := Lib.hid hf1
      clear hbA hf1 hf3
      by_cases hxi : xi = i
      · have hd : (xi == i) = true := beq_iff_eq.2 hxi
        have HF : Hid (r = some ⟨xi, xr, xf⟩) := by
          show _ = _
          rw [← HQ.out]
          have hsp : es = es.take k ++ ⟨xi, xr, xA, xn, xc, xf⟩ :: es.drop (k + 1) := by
            have := HX.out
            rw [← this, List.getElem_cons_drop hk', List.take_append_drop]
          unfold findE
          rw [hsp, List.map_append, List.find?_append, List.find?_eq_none.2 (fun y hy => by
            obtain ⟨x, hx, rfl⟩ := List.mem_map.1 hy
            simpa using HA.out x hx)]
          simp [hxi]
        clear hxi
        go_wp2_with fail
        refine (copyEntry_at xi xr xA xn xc xf HF1.out hsx _ HRX.out).mono ?_
        rintro e w2 ⟨⟨yi, yr, yA, yn, yc, yf⟩, rfl, hye, hfl, hb2⟩
        have HY2 := Lib.hid (Blk.below HY1.out hb2 HY1.out.lt)
        have HB2 := Lib.hid (below_next HB1.out (by have := HB1.out.size; omega) hb2)
        have HFL := Lib.hid (hfl.less (show w.heap.size + 1 ≤ _ by have := HY1.out.lt; omega))
        have HYE := Lib.hid hye
        obtain ⟨y0, y1, y2, q0, q1, q2⟩ := blk3 HY2.out
        have hly := HY2.out.lt
        clear hb2 hfl hye c0 c1 c2 HRX HB1 HY1 hwr
        go_wp2_with fail
        refine bodyPost_ret (v := .tuple #[exV ⟨yi, yr, yA, yn, yc, yf⟩, .bool true]) (by simp [results, Tryz.results35, go_sem, y0, y1, y2]) rfl ?_
        refine ⟨⟨yi, yr, yA, yn, yc, yf⟩, by rw [HF.out]; rfl, by rw [HF.out]; exact HYE.out, ?_, below_put3 HB2.out (Nat.le_refl w.heap.size) _ _ _⟩
        exact ⟨HFL.out.1, HFL.out.2.1, (OwnK.put3 HFL.out.2.2 (Nat.lt_succ_self w.heap.size) _ _ _).less (Nat.le_succ _)⟩
      · have hd : (xi == i) = false := beq_eq_false_iff_ne.2 hxi
        have HA2 : Hid (∀ x ∈ es.take (k + 1), x.id ≠ i) := fun x hx => by
          rw [List.take_succ_eq_append_getElem hk', HX.out] at hx
          rcases List.mem_append.1 hx with h | h
          · exact HA.out x h
          · simp at h; subst h; exact hxi
        clear hxi
        go_wp2_with fail
        go_roundg (n - (k + 1))
        case measure => omega
        case rel => exact ⟨k + 1, by omega, Nat.le_refl _, by go_num, HB1, HY1, HA2⟩
    · have hkn : Hid (k = n) := by show k = n; omega
      have HF : Hid (r = none) := by
        show _ = _
        rw [← HQ.out]
        refine List.find?_eq_none.2 fun y hy => ?_
        obtain ⟨x, hx, rfl⟩ := List.mem_map.1 hy
        have := HA.out x (by rw [hkn.out, List.take_of_length_le (by rw [HN.out]; exact Nat.le_refl _)]; exact hx)
        simpa using this
      obtain ⟨y0, y1, y2, q0, q1, q2⟩ := blk3 HY.out
      have hly := HY.out.lt
      go_wp2_with fail
      refine bodyPost_ret (v := .tuple #[exV ⟨0, 0, none, 0, 0, []⟩, .bool false]) (by simp [results, Tryz.results35, go_sem, y0, y1, y2]) rfl ?_
      exact ⟨⟨0, 0, none, 0, 0, []⟩, by rw [HF.out]; rfl, by rw [HF.out]; rfl, ⟨rfl, Nat.le_refl _, OwnK.none_ _ _⟩, below_put3 HB.out (Nat.le_refl w.heap.size) _ _ _⟩
end Go.Proofs.YtoffnfooeojhnaaGreat
namespace Go.Proofs.YtoffnfooeojhnaaGreat
open Go.RowKit Go.Sort Spans Tb
section
variable {P : Program} {md : Region.Mode} {ops : Array Oper} {Q : Exit → Act → World → Prop} {S : World → Prop}
/-- Two operations may come up. -/
theorem wpAnyH_pr {i j : Nat} {oi oj : Oper} {fuel : Nat} {listed : Array Bool} {a : Act} {w : World} (hr : Region.ready md ops listed = [i, j]) (hi : ops.toList[i]? = some oi) (hj : ops.toList[j]? = some oj)
    (hw : Region.wanted oi (yielded ops a.tmps) = true) (hw' : Region.wanted oj (yielded ops a.tmps) = true)
    (h : ∀ K : Act → World → Prop, Hid (∀ a w, S w → wpAnyH P md ops Q S fuel (listed.setIfInBounds i true) a w → K a w) → Oper.wp P oi a w K Q)
    (h' : ∀ K : Act → World → Prop, Hid (∀ a w, S w → wpAnyH P md ops Q S fuel (listed.setIfInBounds j true) a w → K a w) → Oper.wp P oj a w K Q) : wpAnyH P md ops Q S (fuel + 1) listed a w := by
  refine wpAnyH_ready hr (by simp) (AllReadyH.cons (by simpa using hi) (fun K hK => ?_) (AllReadyH.cons (by simpa using hj) (fun K hK => ?_) AllReadyH.nil))
  · rw [if_pos hw]
    exact h K (fun a w hS hW => hK.out a w hS (fun _ => hW))
  · rw [if_pos hw']
    exact h' K (fun a w hS hW => hK.out a w hS (fun _ => hW))
end
theorem own_other {α β : Type} {L : Lay α} {M : Lay β} (hLM : L.T ≠ M.T) {w w' : World} {base base' : Nat} {v u : Value} {es : List α} {fs : List β} (h : OwnK M w base u fs) (hv : OwnK L w base' v es) (hg : w.grownBy w' v.ownBlock) : OwnK M w' base u fs := by
  refine ⟨h.1, ?_⟩
  rcases h.2 with h2 | ⟨g, cap, cur, hu, hbg, hh, r⟩
  · exact .inl h2
  · refine .inr ⟨g, cap, cur, hu, hbg, (hg.block g (Array.getElem?_eq_some_iff.1 hh).1 (fun e => ?_)).trans hh, r⟩
    rcases hv.2 with ⟨rfl, _⟩ | ⟨g', cap', cur', rfl, _, hh', _⟩
    · simp [Value.ownBlock] at e
    · simp [Value.ownBlock] at e
      subst e
      rw [hh] at hh'
      injection hh' with e1
      injection e1 with _ e2
      exact hLM e2.symm
theorem flt_other {w w' : World} {base base' : Nat} {v : Value} {es : List Ex} {x : Ex} (h : FltO w base x) (hv : OwnK layE w base' v es) (hg : w.grownBy w' v.ownBlock) : FltO w' base x :=
  ⟨h.1, h.2.1, own_other (by decide) h.2.2 hv hg⟩
theorem make_ents (n : Nat) (hn : n ≤ 100000) : ∃ Z : Array Value, Z.size = n * 3 ∧ ∀ W : World, (Instr.makeSlice 50 (.int .i64 0) (.int .i64 (n : Int))).run Tryz.prog W = .ok (.slice (some ⟨W.heap.size, 0, none⟩) 0 n) (W.alloc (.cells Z 58)) := by
  obtain ⟨i, hi, hz, hs, hby⟩ := Lay.has layE
  refine ⟨madeCells (Value.agg layE.zero).cells (n * 3), size_madeCells _ _, fun W => ?_⟩
  have h := run_make (P := Tryz.prog) W 50 58 i _ Tryz.underlying50 hi hz .i64 .i64 0 n (by omega) (by omega) (by rw [hby]; show (40 : Int) * n ≤ _; omega) (by omega)
  rw [hs, show layE.k = 3 from rfl] at h
  simpa using h
theorem own_made0 {W : World} {base : Nat} {Z : Array Value} {n : Nat} (hZ : Z.size = n * 3) (hb : base ≤ W.heap.size) (hn : n ≤ maxLen) : OwnK layE (W.alloc (.cells Z 58)) base (.slice (some ⟨W.heap.size, 0, none⟩) 0 n) ([] : List Ex) :=
  ⟨by simp, .inr ⟨W.heap.size, n, Z, rfl, hb, heap_alloc_new _ _, Nat.zero_le _, hn, hZ, by simp⟩⟩
/-- What tells entries in new memory. -/
def GivesEs (w : World) (es : List En) (e : Ending) (w' : World) : Prop := ∃ (ys : List Ex) (B : Option Addr) (m d : Nat), e = .returned (.slice B m d) ∧ ys.length = m ∧ m ≤ d ∧ ys.map Ex.en = es ∧ OwnEn w' w.heap.size (.slice B m d) ys ∧ Below w.heap.size w w'
set_option maxRecDepth 100000 in
set_option maxHeartbeats 2000000 in
theorem copyEnts_at (A : Option Addr) (es : List Ex) (n c : Nat) (hn : es.length = n) (hm : n ≤ 100000) (hs : Short es) (w : World) (hr : RdEn w A es) :
    Calls Tryz.prog 72 #[.slice A n c] w (GivesEs w (es.map Ex.en)) := by
  have HN := Lib.hid hn
  have HR := Lib.hid hr
  have HS := Lib.hid hs
  obtain ⟨Z, hZ, hmk⟩ := make_ents n hm
  have hB0 : Below w.heap.size w (w.alloc (.cells Z 58)) := (gr1 w (.cells Z 58)).below
  have HB0 := Lib.hid hB0
  have HO0 := Lib.hid (own_made0 (W := w) (base := w.heap.size) hZ (Nat.le_refl _) (by rw [maxLen_num]; omega))
  have hw0 : (0 : Int) ≤ (n : Int) := by omega
  clear hn hr hs hB0 hZ
  go_enter Tryz.func72, Tryz.ntmps72
  go_wp2_with fail
  clear hmk
  generalize w.alloc (.cells Z 58) = w0 at *
  go_loopg [3, 11] n (fun gg s3 s11 wr => ∃ (k : Nat) (ys : List Ex) (B : Option Addr) (d : Nat), k ≤ n ∧ n - k ≤ gg ∧ s11 = .int .i64 (k : Int) ∧ s3 = .slice B k d ∧ k ≤ d ∧ Hid (ys.length = k) ∧ Hid (ys.map Ex.en = (es.take k).map Ex.en) ∧ Hid (OwnEn wr w.heap.size (.slice B k d) ys) ∧ Hid (Below w.heap.size w wr))
  case atStart => exact ⟨0, [], _, n, Nat.zero_le _, by omega, rfl, rfl, Nat.zero_le _, rfl, by show _ = _; simp, ⟨HO0.out, fun x hx => by cases hx⟩, HB0⟩
  case round =>
    obtain ⟨k, ys, B, d, hk, hgg, rfl, rfl, hkd, HL, HM, HO, HB⟩ := hrel
    clear HB0 HO0
    by_cases hlt : k < n
    · have hk' : k < es.length := by rw [HN.out]; exact hlt
      obtain ⟨g, off, rfl, hg, c0, c1, c2, hf⟩ := RdEn.at3 (HR.out.below HB.out) hk'
      have hsx := HS.out _ (List.getElem_mem hk')
      obtain ⟨x, hx⟩ : ∃ x, es[k] = x := ⟨_, rfl⟩
      have HX := Lib.hid hx
      rw [hx] at c0 c1 c2 hf hsx
      clear hx
      obtain ⟨xi, xr, xA, xn, xc, xf⟩ := x
      obtain ⟨hf1, hf2, hf3⟩ := hf
      dsimp only at c0 c1 c2 hsx hf1 hf2 hf3
      have w5 : (k : Int) < (n : Int) := by omega
      have hbA : Below wr.heap.size wr (wr.alloc (.cells #[.int .i64 xi, .int .i64 xr, .slice xA xn xc] 58)) := (gr1 wr (.cells #[.int .i64 xi, .int .i64 xr, .slice xA xn xc] 58)).below
      have HB1 := Lib.hid (below_next HB.out (Nat.le_refl _) hbA)
      have HO1 := Lib.hid (HO.out.below hbA)
      have HRX := Lib.hid (RdK.below hf3 hbA)
      have HF1 := Lib.hid hf1
      clear hbA hf1 hf3
      go_wp2_with fail
      refine (copyEntry_at xi xr xA xn xc xf HF1.out hsx _ HRX.out).mono ?_
      rintro e w2 ⟨⟨yi, yr, yA, yn, yc, yf⟩, rfl, hye, hfl, hb2⟩
      have HB2 := Lib.hid (below_next HB1.out (by have := HB1.out.size; omega) hb2)
      have HO2 := Lib.hid (HO1.out.below hb2)
      have HFL := Lib.hid (hfl.less HB1.out.size)
      have HYE := Lib.hid hye
      have hb3 : Below w2.heap.size w2 (w2.alloc (.cells #[.int .i64 yi, .int .i64 yr, .slice yA yn yc] 58)) := (gr1 w2 (.cells #[.int .i64 yi, .int .i64 yr, .slice yA yn yc] 58)).below
      have hB3 := below_next HB2.out (Nat.le_refl _) hb3
      have HO3 := Lib.hid (HO2.out.below hb3)
      have hO3 := HO3.out.1
      have HFL3 := Lib.hid (HFL.out.below hb3)
      have hr3 := rdk_one layE w2 ⟨yi, yr, yA, yn, yc, yf⟩ 58 #[.int .i64 yi, .int .i64 yr, .slice yA yn yc] rfl
      have hs3 := hB3.size
      clear hb2 hb3 hfl hye c0 c1 c2 HRX HB1 HB2 HO1 HO2 HO HB HFL
      go_wp2_with (at_builtin; refine wpList_append_k layE (by rfl) (.tmp 15) (.tmp 18) 50 underE rfl w.heap.size _ ys (by rfl) hO3 _ [⟨yi, yr, yA, yn, yc, yf⟩] 1 1 (by rfl) hr3 rfl (by rw [maxLen_num, HL.out]; omega) (by show (ys.length + 1) * 40 ≤ _; rw [HL.out]; omega) hs3 ?_; intro v6 w6 ho6 hB6' hg6' hl6'; have hlen : (ys ++ [(⟨yi, yr, yA, yn, yc, yf⟩ : Ex)]).length = k + 1 := (by rw [List.length_append, HL.out]; rfl); obtain ⟨A9, c9, hv9, hc9, hr9⟩ := OwnK.form ho6 hlen; subst hv9)
      have HB6 := Lib.hid (hB6' w hB3)
      have HL6 := Lib.hid hlen
      have HO6 : Hid (OwnEn w6 w.heap.size (.slice A9 (k + 1) c9) (ys ++ [⟨yi, yr, yA, yn, yc, yf⟩])) := by
        refine ⟨ho6, fun z hz => ?_⟩
        rcases List.mem_append.1 hz with h | h
        · exact flt_other (HO3.out.2 z h) hO3 hg6'
        · simp at h; subst h; exact flt_other HFL3.out hO3 hg6'
      have HM6 : Hid ((ys ++ [(⟨yi, yr, yA, yn, yc, yf⟩ : Ex)]).map Ex.en = (es.take (k + 1)).map Ex.en) := by
        show _ = _
        rw [map_snoc _ hk', HX.out, List.map_append, HM.out]
        have := HYE.out
        simp only [List.map_cons, List.map_nil]
        rw [this]
      clear hB6' hg6' hl6' ho6 hlen hr9 hr3 hO3 hB3 hs3 HO3 HFL3 HYE HL HM HX
      go_wp2_with fail
      go_roundg (n - (k + 1))
      case measure => omega
      case rel => exact ⟨k + 1, _, A9, c9, by omega, Nat.le_refl _, by go_num, rfl, hc9, HL6, HM6, HO6, HB6⟩
    · have hkn : k = n := by omega
      subst hkn
      go_wp2_with fail
      go_ret
      refine ⟨ys, B, k, d, rfl, HL.out, hkd, ?_, HO.out, HB.out⟩
      have := HM.out
      rwa [List.take_of_length_le (by rw [HN.out]; exact Nat.le_refl _)] at this
/-- What tells a state in new memory. -/
def GivesSt (w : World) (b : Bk) (e : Ending) (w' : World) : Prop := ∃ t : Sx, e = .returned t.v ∧ t.bk = b ∧ t.Len ∧ t.Own w' w.heap.size ∧ Below w.heap.size w w'
set_option maxRecDepth 100000 in
set_option maxHeartbeats 4000000 in
theorem copySt_at (s : Sx) (ln : s.Len) (fw : s.Few) (w : World) (hr : s.Rd w) :
    Calls Tryz.prog 34 #[s.v] w (GivesSt w s.bk) := by
  obtain ⟨ep, A, n, c, ls, A1, n1, c1, av, A2, n2, c2, su⟩ := s
  have LN := Lib.hid ln
  have FW := Lib.hid fw
  have hn : n ≤ 100000 := fw.n
  have hB0 := (gr2 w (.cells #[.int .i64 ep, .slice A n c, .slice A1 n1 c1, .slice A2 n2 c2] 52) (.cells #[.int .i64 0, .slice none 0 0, .slice none 0 0, .slice none 0 0] 52)).below
  have hX0 := (Blk.new w 52 #[.int .i64 ep, .slice A n c, .slice A1 n1 c1, .slice A2 n2 c2]).alloc (.cells #[.int .i64 0, .slice none 0 0, .slice none 0 0, .slice none 0 0] 52)
  have hY0 := Blk.new (w.alloc (.cells #[.int .i64 ep, .slice A n c, .slice A1 n1 c1, .slice A2 n2 c2] 52)) 52 #[.int .i64 0, .slice none 0 0, .slice none 0 0, .slice none 0 0]
  rw [show (w.alloc (.cells #[.int .i64 ep, .slice A n c, .slice A1 n1 c1, .slice A2 n2 c2] 52)).heap.size = w.heap.size + 1 by simp] at hY0
  have hR0 := hr.below hB0
  have hs0 : ((w.alloc (.cells #[.int .i64 ep, .slice A n c, .slice A1 n1 c1, .slice A2 n2 c2] 52)).alloc (.cells #[.int .i64 0, .slice none 0 0, .slice none 0 0, .slice none 0 0] 52)).heap.size = w.heap.size + 2 := by simp
  clear ln fw hr
  go_enter Tryz.func34, Tryz.ntmps34
  go_wp2_with fail
  generalize (w.alloc (.cells #[.int .i64 ep, .slice A n c, .slice A1 n1 c1, .slice A2 n2 c2] 52)).alloc (.cells #[.int .i64 0, .slice none 0 0, .slice none 0 0, .slice none 0 0] 52) = w0 at *
  have hS0 : Blk w0.drew w.heap.size 52 #[.int .i64 ep, .slice A n c, .slice A1 n1 c1, .slice A2 n2 c2] := hX0
  refine wp_region_held_drew (S := fun w' => Blk w' w.heap.size 52 #[.int .i64 ep, .slice A n c, .slice A1 n1 c1, .slice A2 n2 c2]) (by kernel_rfl) hS0 (fun _ => ?_)
  refine wpAnyH_yes (i := 0) (d := 3) (v := ?_) rfl rfl (by kernel_rfl) (by kernel_rfl) (by kernel_rfl) (fun _ _ _ h => h) (by rfl) ?_ hS0 ?_
  rotate_left
  · intro w' hSw; obtain ⟨r0, r1, r2, r3, _⟩ := blk4 hSw; go_simp <;> with_reducible rfl
  simp only [Act.put, List.setIfInBounds_toArray, List.set_cons_zero, List.set_cons_succ]
  refine wpAnyH_yes (i := 1) (d := 4) (v := ?_) rfl rfl (by kernel_rfl) (by kernel_rfl) (by kernel_rfl) (fun _ _ _ h => h) (by rfl) ?_ hS0 ?_
  rotate_left
  · intro w' hSw; obtain ⟨r0, r1, r2, r3, _⟩ := blk4 hSw; go_simp <;> with_reducible rfl
  simp only [Act.put, List.setIfInBounds_toArray, List.set_cons_zero, List.set_cons_succ]
  refine wpAnyH_yes (i := 2) (d := 5) (v := ?_) rfl rfl (by kernel_rfl) (by kernel_rfl) (by kernel_rfl) (fun _ _ _ h => h) (by rfl) ?_ hS0 ?_
  rotate_left
  · intro w' hSw; obtain ⟨r0, r1, r2, r3, _⟩ := blk4 hSw; go_simp <;> with_reducible rfl
  simp only [Act.put, List.setIfInBounds_toArray, List.set_cons_zero, List.set_cons_succ]
  refine wpAnyH_yes (i := 3) (d := 6) (v := ?_) rfl rfl (by kernel_rfl) (by kernel_rfl) (by kernel_rfl) (fun _ _ _ h => h) (by rfl) ?_ hS0 ?_
  rotate_left
  · intro w' hSw; obtain ⟨r0, r1, r2, r3, _⟩ := blk4 hSw; go_simp <;> with_reducible rfl
  simp only [Act.put, List.setIfInBounds_toArray, List.set_cons_zero, List.set_cons_succ]
  refine wpAnyH_yes (i := 5) (d := 8) (v := ?_) rfl rfl (by kernel_rfl) (by kernel_rfl) (by kernel_rfl) (fun _ _ _ h => h) (by rfl) ?_ hS0 ?_
  rotate_left
  · intro w' hSw; obtain ⟨r0, r1, r2, r3, _⟩ := blk4 hSw; go_simp <;> with_reducible rfl
  simp only [Act.put, List.setIfInBounds_toArray, List.set_cons_zero, List.set_cons_succ]
  refine wpAnyH_yes (i := 6) (d := 9) (v := ?_) rfl rfl (by kernel_rfl) (by kernel_rfl) (by kernel_rfl) (fun _ _ _ h => h) (by rfl) ?_ hS0 ?_
  rotate_left
  · intro w' hSw; obtain ⟨r0, r1, r2, r3, _⟩ := blk4 hSw; go_simp <;> with_reducible rfl
  simp only [Act.put, List.setIfInBounds_toArray, List.set_cons_zero, List.set_cons_succ]
  refine wpAnyH_yes (i := 8) (d := 11) (v := ?_) rfl rfl (by kernel_rfl) (by kernel_rfl) (by kernel_rfl) (fun _ _ _ h => h) (by rfl) ?_ hS0 ?_
  rotate_left
  · intro w' hSw; obtain ⟨r0, r1, r2, r3, _⟩ := blk4 hSw; go_simp <;> with_reducible rfl
  simp only [Act.put, List.setIfInBounds_toArray, List.set_cons_zero, List.set_cons_succ]
  refine wpAnyH_yes (i := 9) (d := 12) (v := ?_) rfl rfl (by kernel_rfl) (by kernel_rfl) (by kernel_rfl) (fun _ _ _ h => h) (by rfl) ?_ hS0 ?_
  rotate_left
  · intro w' hSw; obtain ⟨r0, r1, r2, r3, _⟩ := blk4 hSw; go_simp <;> with_reducible rfl
  simp only [Act.put, List.setIfInBounds_toArray, List.set_cons_zero, List.set_cons_succ]
  have HR : Hid (Sx.Rd w0.drew ⟨ep, A, n, c, ls, A1, n1, c1, av, A2, n2, c2, su⟩) := hR0.below (by exact (Below.refl _ _).drew)
  have HY : Hid (Blk w0.drew (w.heap.size + 1) 52 #[.int .i64 0, .slice none 0 0, .slice none 0 0, .slice none 0 0]) := hY0
  have HB : Hid (Below w.heap.size w w0.drew) := hB0.drew
  have hs1 : w.heap.size + 2 ≤ w0.drew.heap.size := by have : w0.drew.heap.size = w0.heap.size := rfl; omega
  have HX := Lib.hid hS0
  clear hR0 hY0 hB0 hX0 hs0 hS0
  generalize w0.drew = w1 at *
  refine wpAnyH_one (i := 4) (by kernel_rfl) rfl (by rfl) (fun K hK => ?_)
  have hO0 : OwnLk w1 w1.heap.size (.slice none 0 0) [] := OwnK.none_ _ _
  refine op_append_k layL (.const (.slice none 0 0)) (.tmp 6) 49 underL (by rfl) w1.heap.size (.slice none 0 0) [] (by rfl) hO0 A ls n c (by rfl) HR.out.ls LN.out.n (by rw [maxLen_num]; simp; omega) (by show (0 + n) * 24 ≤ _; omega) (Nat.le_refl _) ?_
  intro v2 w2 ho2 hb2
  rw [List.nil_append] at ho2
  have hb : Below w1.heap.size w1 w2 := hb2 w1 (Below.refl _ _)
  obtain ⟨B0, d0, hv2, hd0, _⟩ := OwnK.form ho2 LN.out.n
  subst hv2
  have HL := Lib.hid (ho2.less (show w.heap.size + 2 ≤ _ by omega))
  replace HR := Lib.hid (HR.out.below hb)
  replace HY := Lib.hid (Blk.below HY.out hb HY.out.lt)
  replace HB := Lib.hid (below_next HB.out (by have := HB.out.size; omega) hb)
  replace hs1 : w.heap.size + 2 ≤ w2.heap.size := Nat.le_trans hs1 hb.size
  replace HX := Lib.hid (Blk.below HX.out hb HX.out.lt)
  clear hb2 hO0 ho2 hb
  refine hK.out _ _ HX.out ?_
  clear hK
  simp only [Act.put, List.setIfInBounds_toArray, List.set_cons_zero, List.set_cons_succ]
  refine wpAnyH_one (i := 7) (by kernel_rfl) rfl (by rfl) (fun K hK => ?_)
  go_simp
  with_reducible refine (copyEnts_at A1 av n1 c1 LN.out.n1 FW.out.n1 FW.out.av w2 HR.out.av).mono ?_
  rintro e w3 ⟨yv, B1, m1, d1, rfl, hm1, hd1, hy1, ho1, hb⟩
  have HA := Lib.hid (ho1.less hs1)
  replace HR := Lib.hid (HR.out.below hb)
  replace HY := Lib.hid (Blk.below HY.out hb HY.out.lt)
  replace HB := Lib.hid (below_next HB.out (by have := HB.out.size; omega) hb)
  replace hs1 : w.heap.size + 2 ≤ w3.heap.size := Nat.le_trans hs1 hb.size
  replace HX := Lib.hid (Blk.below HX.out hb HX.out.lt)
  replace HL := Lib.hid (OwnK.below HL.out hb)
  have HM1 := Lib.hid hm1
  have HE1 := Lib.hid hy1
  clear hb hm1 hy1 ho1
  go_wp2_with fail
  refine hK.out _ _ HX.out ?_
  clear hK
  refine wpAnyH_one (i := 10) (by kernel_rfl) rfl (by rfl) (fun K hK => ?_)
  go_simp
  with_reducible refine (copyEnts_at A2 su n2 c2 LN.out.n2 FW.out.n2 FW.out.su w3 HR.out.su).mono ?_
  rintro e w4 ⟨yu, B2, m2, d2, rfl, hm2, hd2, hy2, ho2, hb⟩
  have HU := Lib.hid (ho2.less hs1)
  replace HR := Lib.hid (HR.out.below hb)
  replace HY := Lib.hid (Blk.below HY.out hb HY.out.lt)
  replace HB := Lib.hid (below_next HB.out (by have := HB.out.size; omega) hb)
  replace hs1 : w.heap.size + 2 ≤ w4.heap.size := Nat.le_trans hs1 hb.size
  replace HX := Lib.hid (Blk.below HX.out hb HX.out.lt)
  replace HL := Lib.hid (OwnK.below HL.out hb)
  replace HA := Lib.hid (HA.out.below hb)
  have HM2 := Lib.hid hm2
  have HE2 := Lib.hid hy2
  clear hb hm2 hy2 ho2
  go_wp2_with fail
  refine hK.out _ _ HX.out ?_
  clear hK
  refine wpAnyH_yes (i := 11) (d := 14) (v := ?_) rfl rfl (by kernel_rfl) (by kernel_rfl) (by kernel_rfl) (fun _ _ _ h => h) (by rfl) ?_ HX.out ?_
  rotate_left
  · intro w' hSw; obtain ⟨r0, r1, r2, r3, _⟩ := blk4 hSw; go_simp <;> with_reducible rfl
  simp only [Act.put, List.setIfInBounds_toArray, List.set_cons_zero, List.set_cons_succ]
  refine wpAnyH_one (i := 12) (by kernel_rfl) rfl (by rfl) (fun K hK => ?_)
  obtain ⟨y0, y1, y2, y3, q0, q1, q2, q3⟩ := blk4 HY.out
  have hly := HY.out.lt
  go_simp
  have hX3 : Blk ((((w4.setCell ⟨w.heap.size + 1, 0, none⟩ (.int .i64 ep)).setCell ⟨w.heap.size + 1, 1, none⟩ (.slice B0 n d0)).setCell ⟨w.heap.size + 1, 2, none⟩ (.slice B1 m1 d1)).setCell ⟨w.heap.size + 1, 3, none⟩ (.slice B2 m2 d2)) w.heap.size 52 #[.int .i64 ep, .slice A n c, .slice A1 n1 c1, .slice A2 n2 c2] := Blk.far4 HX.out (by omega) _ _ _ _
  refine hK.out _ _ hX3 ?_
  clear hK K
  refine wpAnyH_done (by kernel_rfl) ?_ _
  go_wp2_with fail
  refine bodyPost_ret (v := Sx.v ⟨ep, B0, n, d0, ls, B1, m1, d1, yv, B2, m2, d2, yu⟩) (by simp [results, Tryz.results34, go_sem, y0, y1, y2, y3]) rfl ?_
  refine ⟨⟨ep, B0, n, d0, ls, B1, m1, d1, yv, B2, m2, d2, yu⟩, rfl, ?_, ⟨LN.out.n, hd0, HM1.out, hd1, HM2.out, hd2⟩, ⟨?_, ⟨?_, fun x hx => ?_⟩, ⟨?_, fun x hx => ?_⟩⟩, below_put4 HB.out (Nat.le_succ w.heap.size) _ _ _ _⟩
  · show (⟨ep, ls, yv.map Ex.en, yu.map Ex.en⟩ : Bk) = ⟨ep, ls, av.map Ex.en, su.map Ex.en⟩
    rw [HE1.out, HE2.out]
  · exact (OwnK.put4 HL.out (by omega) _ _ _ _).less (by omega)
  · exact (OwnK.put4 HA.out.1 (by omega) _ _ _ _).less (by omega)
  · exact ⟨(HA.out.2 x hx).1, (HA.out.2 x hx).2.1, (OwnK.put4 (HA.out.2 x hx).2.2 (by omega) _ _ _ _).less (by omega)⟩
  · exact (OwnK.put4 HU.out.1 (by omega) _ _ _ _).less (by omega)
  · exact ⟨(HU.out.2 x hx).1, (HU.out.2 x hx).2.1, (OwnK.put4 (HU.out.2 x hx).2.2 (by omega) _ _ _ _).less (by omega)⟩
end Go.Proofs.YtoffnfooeojhnaaGreat
namespace Go.Proofs.YtoffnfooeojhnaaGreat
open Go.RowKit Go.Sort Spans Tb
theorem rise_iff {A : Type} (g : A → Int) (l : List A) : Rise (l.map g) ↔ ∀ k (h : k < l.length), (decide (last ((l.take k).map g) < g l[k]) && decide (g l[k] ≤ 1073741824)) = true := by
  have key : ∀ k, k ≤ l.length → (Rise ((l.take k).map g) ↔ ∀ j (h : j < l.length), j < k → (decide (last ((l.take j).map g) < g l[j]) && decide (g l[j] ≤ 1073741824)) = true) := by
    intro k
    induction k with
    | zero => intro _; simp [rise_nil]
    | succ k ih =>
      intro hk
      rw [map_snoc g (show k < l.length by omega), rise_snoc, ih (by omega)]
      constructor
      · rintro ⟨h1, h2, h3⟩ j hj hjk
        rcases Nat.lt_or_ge j k with h | h
        · exact h1 j hj h
        · obtain rfl : j = k := by omega
          simp only [Bool.and_eq_true, decide_eq_true_eq]
          exact ⟨h2, h3⟩
      · intro h
        have := h k (by omega) (by omega)
        simp only [Bool.and_eq_true, decide_eq_true_eq] at this
        exact ⟨fun j hj hjk => h j hj (by omega), this⟩
  have hk := key l.length (Nat.le_refl _)
  rw [List.take_length] at hk
  exact hk.trans ⟨fun h k hk => h k hk hk, fun h j hj _ => h j hj⟩
theorem links_iff {ls : List Lk} : LinksOk ls ↔ ls.length ≤ 16 ∧ ∀ k (h : k < ls.length), (decide (last ((ls.take k).map Lk.id) < ls[k].id) && decide (ls[k].id ≤ 1073741824)) = true ∧ ls[k].ad.length ≤ 32 := by
  unfold LinksOk
  rw [rise_iff]
  constructor
  · rintro ⟨h1, h2, h3⟩
    exact ⟨h1, fun k h => ⟨h2 k h, h3 _ (List.getElem_mem h)⟩⟩
  · rintro ⟨h1, h2⟩
    refine ⟨h1, fun j hj => (h2 j hj).1, fun x hx => ?_⟩
    obtain ⟨i, hi, rfl⟩ := List.mem_iff_getElem.1 hx
    exact (h2 i hi).2
set_option maxRecDepth 100000 in
set_option maxHeartbeats 2000000 in
theorem rightLinks_at (A : Option Addr) (ls : List Lk) (n c : Nat) (hn : ls.length = n) (hm : n ≤ 100000) (w : World) (hr : RdLk w A ls) (q : Bool) (hq : q = true ↔ LinksOk ls) :
    Calls Tryz.prog 70 #[.slice A n c] w fun e w' => e = .returned (.bool q) ∧ Below w.heap.size w w' := by
  have HN := Lib.hid hn
  have HQ : Hid (q = true ↔ _) := hq.trans links_iff
  have HR := Lib.hid hr
  have hno : ∀ h : Hid (¬ (ls.length ≤ 16 ∧ ∀ k (h : k < ls.length), (decide (last ((ls.take k).map Lk.id) < ls[k].id) && decide (ls[k].id ≤ 1073741824)) = true ∧ ls[k].ad.length ≤ 32)), false = q := fun h => by
    cases q with
    | false => rfl
    | true => exact absurd (HQ.out.1 rfl) h.out
  have HNO := Lib.hid hno
  clear hn hq hr hno
  by_cases h16 : (16 : Int) < (n : Int)
  · have HF := Lib.hid (HNO.out (fun h => by have := h.1; rw [HN.out] at this; omega))
    go_enter Tryz.func70, Tryz.ntmps70
    go_wp2_with fail
    go_ret
    exact ⟨ret_b HF.out, Below.refl _ _⟩
  · have d16 : decide ((16 : Int) < (n : Int)) = false := decide_eq_false h16
    have HL : Hid (ls.length ≤ 16) := by show _ ≤ _; rw [HN.out]; omega
    go_enter Tryz.func70, Tryz.ntmps70
    go_wp2_with fail
    go_loopg [3, 11] n (fun gg s3 s11 wr => ∃ (k : Nat) (l : Int), k ≤ n ∧ n - k ≤ gg ∧ s11 = .int .i64 (k : Int) ∧ s3 = .int .i64 l ∧ Hid (Below w.heap.size w wr) ∧ Hid (last ((ls.take k).map Lk.id) = l) ∧ Hid (∀ j (h : j < ls.length), j < k → (decide (last ((ls.take j).map Lk.id) < ls[j].id) && decide (ls[j].id ≤ 1073741824)) = true ∧ ls[j].ad.length ≤ 32))
    case atStart => exact ⟨0, 0, Nat.zero_le _, by omega, rfl, rfl, Below.refl _ _, by show _ = _; simp [last_nil], fun j _ h => absurd h (by omega)⟩
    case round =>
      obtain ⟨k, l, hk, hgg, rfl, rfl, HB, HLA, HA⟩ := hrel
      clear d16 h16
      by_cases hlt : k < n
      · have hk' : k < ls.length := by rw [HN.out]; exact hlt
        obtain ⟨g, off, rfl, hg, c0, c1⟩ := RdLk.at2 (RdK.below HR.out HB.out) hk'
        obtain ⟨x, hx⟩ : ∃ x, ls[k] = x := ⟨_, rfl⟩
        have HX := Lib.hid hx
        rw [hx] at c0 c1
        clear hx
        obtain ⟨xi, xa⟩ := x
        dsimp only at c0 c1
        have w5 : (k : Int) < (n : Int) := by omega
        have HB1 := Lib.hid (HB.out.alloc HB.out.size (.cells #[.int .i64 xi, .string ⟨xa.toArray⟩] 64))
        have hsz : (⟨xa.toArray⟩ : ByteArray).size = xa.length := by simp [ByteArray.size]
        by_cases hfo : (decide (l < xi) && decide (xi ≤ 1073741824)) = true
        · have HFO := Lib.hid hfo
          clear hfo
          by_cases h32 : (32 : Int) < (xa.length : Int)
          · have d32 : decide ((32 : Int) < (xa.length : Int)) = true := decide_eq_true h32
            have HF := Lib.hid (HNO.out (fun h => by have := (h.2 k hk').2; rw [HX.out] at this; dsimp only at this; omega))
            go_wp2_with fail
            refine (follows_at l xi _ true HFO.out).mono ?_
            rintro e w2 ⟨rfl, rfl⟩
            go_wp2_with fail
            go_ret
            exact ⟨ret_b HF.out, HB1.out⟩
          · have d32 : decide ((32 : Int) < (xa.length : Int)) = false := decide_eq_false h32
            have HA2 : Hid (∀ j (h : j < ls.length), j < k + 1 → (decide (last ((ls.take j).map Lk.id) < ls[j].id) && decide (ls[j].id ≤ 1073741824)) = true ∧ ls[j].ad.length ≤ 32) := fun j hj hjk => by
              rcases Nat.lt_or_ge j k with h | h
              · exact HA.out j hj h
              · obtain rfl : j = k := by omega
                rw [HX.out, HLA.out]
                exact ⟨HFO.out, by dsimp only; omega⟩
            have HLA2 : Hid (last ((ls.take (k + 1)).map Lk.id) = xi) := by
              show _ = _
              rw [map_snoc Lk.id hk', HX.out, last_snoc]
            go_wp2_with fail
            refine (follows_at l xi _ true HFO.out).mono ?_
            rintro e w2 ⟨rfl, rfl⟩
            go_wp2_with fail
            go_roundg (n - (k + 1))
            case measure => omega
            case rel => exact ⟨k + 1, xi, by omega, Nat.le_refl _, by go_num, rfl, HB1, HLA2, HA2⟩
        · have HF := Lib.hid (HNO.out (fun h => by have := (h.2 k hk').1; rw [HX.out, HLA.out] at this; exact hfo this))
          have HFO : Hid ((decide (l < xi) && decide (xi ≤ 1073741824)) = false) := by show _ = _; simpa using hfo
          clear hfo
          go_wp2_with fail
          refine (follows_at l xi _ false HFO.out).mono ?_
          rintro e w2 ⟨rfl, rfl⟩
          go_wp2_with fail
          go_ret
          exact ⟨ret_b HF.out, HB1.out⟩
      · have HF : Hid (true = q) := (HQ.out.2 ⟨HL.out, fun j hj => HA.out j hj (by have := HN.out; omega)⟩).symm
        go_wp2_with fail
        go_ret
        exact ⟨ret_b HF.out, HB.out⟩
end Go.Proofs.YtoffnfooeojhnaaGreat
namespace Go.Proofs.YtoffnfooeojhnaaGreat
open Go.RowKit Go.Sort Spans Tb
theorem not_big {f : List Pr} (h : 24 < f.length) : ¬ Fil.NormIs f f 0 := by
  rintro (⟨_, _, e⟩ | ⟨h2, _⟩ | ⟨h2, _⟩)
  · cases e
  · omega
  · have := h2.1; omega
set_option maxRecDepth 100000 in
set_option maxHeartbeats 1000000 in
theorem norm_big (A : Option Addr) (n c : Nat) (hn : 24 < n) (w : World) :
    Calls Tryz.prog 12 #[.slice A n c] w fun e w' => e = .returned (.tuple #[.slice none 0 0, .int .i64 4]) ∧ w' = w := by
  have v1 : (24 : Int) < (n : Int) := by omega
  go_enter Tryz.func12, Tryz.ntmps12
  go_wp2_with fail
  go_ret2
  exact ⟨rfl, rfl⟩
set_option maxRecDepth 100000 in
set_option maxHeartbeats 1000000 in
theorem fright_q (A : Option Addr) (f : List Pr) (n c : Nat) (hn : f.length = n) (hl : PBd f) (w : World) (hr : RdQ w A f) (q : Bool) (hq : q = true ↔ Fil.NormIs f f 0) :
    Calls Tryz.prog 15 #[.slice A n c] w fun e w' => e = .returned (.bool q) ∧ Below w.heap.size w w' := by
  by_cases h : n ≤ 100
  · refine (fright_at A f n c hn h hl w hr).mono ?_
    rintro e w' ⟨q', rfl, hq', hb⟩
    have : q' = q := Bool.eq_iff_iff.2 (hq'.trans hq.symm)
    exact ⟨by rw [this], hb⟩
  · have HF : Hid (false = q) := by
      show _ = _
      cases q with
      | false => rfl
      | true => exact absurd (hq.1 rfl) (not_big (by omega))
    have hbig : 24 < n := by omega
    clear h hn hq hl hr
    go_enter Tryz.func15, Tryz.ntmps15
    go_wp2_with fail
    refine (norm_big A n c hbig w).mono ?_
    rintro e w' ⟨rfl, rfl⟩
    go_wp2_with fail
    go_ret
    exact ⟨ret_b HF.out, Below.refl _ _⟩
theorem ents_iff {ls : List Lk} {es : List Ex} : EntsOk ls (es.map Ex.en) ↔ es.length ≤ 64 ∧ ∀ k (h : k < es.length), (decide (last ((es.take k).map Ex.id) < es[k].id) && decide (es[k].id ≤ 1073741824)) = true ∧ Linked ls es[k].fr ∧ Fil.NormIs es[k].f es[k].f 0 := by
  have hm : (es.map Ex.en).map En.id = es.map Ex.id := by rw [List.map_map]; rfl
  unfold EntsOk
  rw [hm, rise_iff, List.length_map]
  constructor
  · rintro ⟨h1, h2, h3⟩
    exact ⟨h1, fun k h => ⟨h2 k h, h3 _ (List.mem_map.2 ⟨_, List.getElem_mem h, rfl⟩)⟩⟩
  · rintro ⟨h1, h2⟩
    refine ⟨h1, fun j hj => (h2 j hj).1, fun x hx => ?_⟩
    obtain ⟨y, hy, rfl⟩ := List.mem_map.1 hx
    obtain ⟨i, hi, rfl⟩ := List.mem_iff_getElem.1 hy
    exact (h2 i hi).2
def PBs (es : List Ex) : Prop := ∀ x ∈ es, PBd x.f
set_option maxRecDepth 100000 in
set_option maxHeartbeats 4000000 in
theorem rightEnts_at (ep : Int) (A : Option Addr) (n c : Nat) (ls : List Lk) (A1 : Option Addr) (n1 c1 : Nat) (A2 : Option Addr) (n2 c2 : Nat) (hls : ls.length = n) (hln : n ≤ 100000) (B : Option Addr) (es : List Ex) (m d : Nat) (hn : es.length = m) (hm : m ≤ 100000) (hp : PBs es) (w : World) (hrl : RdLk w A ls) (hr : RdEn w B es) (q : Bool) (hq : q = true ↔ EntsOk ls (es.map Ex.en)) :
    Calls Tryz.prog 71 #[.agg #[.int .i64 ep, .slice A n c, .slice A1 n1 c1, .slice A2 n2 c2], .slice B m d] w fun e w' => e = .returned (.bool q) ∧ Below w.heap.size w w' := by
  have HN := Lib.hid hn
  have HLS := Lib.hid hls
  have HQ : Hid (q = true ↔ _) := hq.trans ents_iff
  have HR := Lib.hid hr
  have HRL := Lib.hid hrl
  have HP := Lib.hid hp
  have hno : ∀ h : Hid (¬ (es.length ≤ 64 ∧ ∀ k (h : k < es.length), (decide (last ((es.take k).map Ex.id) < es[k].id) && decide (es[k].id ≤ 1073741824)) = true ∧ Linked ls es[k].fr ∧ Fil.NormIs es[k].f es[k].f 0)), false = q := fun h => by
    cases q with
    | false => rfl
    | true => exact absurd (HQ.out.1 rfl) h.out
  have HNO := Lib.hid hno
  have HB0 := Lib.hid (gr1 w (.cells #[.int .i64 ep, .slice A n c, .slice A1 n1 c1, .slice A2 n2 c2] 52)).below
  have HX0 := Lib.hid (Blk.new w 52 #[.int .i64 ep, .slice A n c, .slice A1 n1 c1, .slice A2 n2 c2])
  clear hn hls hq hr hrl hp hno
  by_cases h64 : (64 : Int) < (m : Int)
  · have HF := Lib.hid (HNO.out (fun h => by have := h.1; rw [HN.out] at this; omega))
    go_enter Tryz.func71, Tryz.ntmps71
    go_wp2_with fail
    go_ret
    exact ⟨ret_b HF.out, HB0.out⟩
  · have d64 : decide ((64 : Int) < (m : Int)) = false := decide_eq_false h64
    have HL : Hid (es.length ≤ 64) := by show _ ≤ _; rw [HN.out]; omega
    go_enter Tryz.func71, Tryz.ntmps71
    go_wp2_with fail
    generalize w.alloc (.cells #[.int .i64 ep, .slice A n c, .slice A1 n1 c1, .slice A2 n2 c2] 52) = w0 at *
    go_loopg [5, 15] m (fun gg s3 s11 wr => ∃ (k : Nat) (l : Int), k ≤ m ∧ m - k ≤ gg ∧ s11 = .int .i64 (k : Int) ∧ s3 = .int .i64 l ∧ Hid (Below w.heap.size w wr) ∧ Hid (Blk wr w.heap.size 52 #[.int .i64 ep, .slice A n c, .slice A1 n1 c1, .slice A2 n2 c2]) ∧ Hid (last ((es.take k).map Ex.id) = l) ∧ Hid (∀ j (h : j < es.length), j < k → (decide (last ((es.take j).map Ex.id) < es[j].id) && decide (es[j].id ≤ 1073741824)) = true ∧ Linked ls es[j].fr ∧ Fil.NormIs es[j].f es[j].f 0))
    case atStart => exact ⟨0, 0, Nat.zero_le _, by omega, rfl, rfl, HB0, HX0, by show _ = _; simp [last_nil], fun j _ h => absurd h (by omega)⟩
    case round =>
      obtain ⟨k, l, hk, hgg, rfl, rfl, HB, HX, HLA, HA⟩ := hrel
      clear d64 h64 HB0 HX0
      by_cases hlt : k < m
      · have hk' : k < es.length := by rw [HN.out]; exact hlt
        obtain ⟨g, off, rfl, hg, c0, c1, c2, hf⟩ := RdEn.at3 (HR.out.below HB.out) hk'
        have hpx := HP.out _ (List.getElem_mem hk')
        obtain ⟨x, hx⟩ : ∃ x, es[k] = x := ⟨_, rfl⟩
        have HE := Lib.hid hx
        rw [hx] at c0 c1 c2 hf hpx
        clear hx
        obtain ⟨xi, xr, xA, xn, xc, xf⟩ := x
        obtain ⟨hf1, hf2, hf3⟩ := hf
        dsimp only at c0 c1 c2 hf1 hf2 hf3 hpx
        have HPX := Lib.hid hpx
        have HF1 := Lib.hid hf1
        have w5 : (k : Int) < (m : Int) := by omega
        have hbA : Below wr.heap.size wr (wr.alloc (.cells #[.int .i64 xi, .int .i64 xr, .slice xA xn xc] 58)) := (gr1 wr (.cells #[.int .i64 xi, .int .i64 xr, .slice xA xn xc] 58)).below
        have HB1 := Lib.hid (below_next HB.out (Nat.le_refl _) hbA)
        have HX1 := Lib.hid (Blk.below HX.out hbA HX.out.lt)
        have HE1 := Lib.hid (Blk.new wr 58 #[.int .i64 xi, .int .i64 xr, .slice xA xn xc])
        have HRX := Lib.hid (RdK.below hf3 hbA)
        obtain ⟨x0, x1, x2, x3, _⟩ := blk4 HX.out
        have hlx := HX.out.lt
        have hw : w.heap.size ≤ wr.heap.size := HB.out.size
        obtain ⟨r, hr⟩ : ∃ r, findL ls xr = r := ⟨_, rfl⟩
        have HRR := Lib.hid hr
        clear hf1 hf3 hpx hr
        go_wp2_with fail
        clear c0 c1 c2 x0 x1 x2 x3 hlx
        generalize hW1 : wr.alloc (.cells #[.int .i64 xi, .int .i64 xr, .slice xA xn xc] 58) = w1 at *
        have hwr : wr.heap.size < w1.heap.size := HE1.out.lt
        refine (link_at ⟨ep, A, n, c, ls, A1, n1, c1, [], A2, n2, c2, []⟩ xr HLS.out hln w1 (RdK.below HRL.out HB1.out) r HRR.out).mono ?_
        rintro e w2 ⟨rfl, hb2⟩
        have HB2 := Lib.hid (below_next HB1.out (by omega) hb2)
        have HX2 := Lib.hid (Blk.below HX1.out hb2 HX1.out.lt)
        have HE2 := Lib.hid (Blk.below HE1.out hb2 HE1.out.lt)
        have HRX2 := Lib.hid (RdK.below HRX.out hb2)
        have hs2 := hb2.size
        clear hb2 HX1 HE1 HRX HB1 hW1 hbA
        obtain ⟨lk, hlk⟩ : ∃ lk, r.getD ⟨0, []⟩ = lk := ⟨_, rfl⟩
        rw [hlk]
        obtain ⟨li, la⟩ := lk
        have HLK := Lib.hid hlk
        clear hlk
        have hb3 : Below w2.heap.size w2 (w2.alloc (.cells #[.int .i64 li, .string ⟨la.toArray⟩] 64)) := (gr1 w2 (.cells #[.int .i64 li, .string ⟨la.toArray⟩] 64)).below
        have HB3 := Lib.hid (below_next HB2.out (by omega) hb3)
        have HX3 := Lib.hid (Blk.below HX2.out hb3 HX2.out.lt)
        have HE3 := Lib.hid (Blk.below HE2.out hb3 HE2.out.lt)
        have HRX3 := Lib.hid (RdK.below HRX2.out hb3)
        clear hb3
        obtain ⟨e0, e1, e2, _⟩ := blk3 HE2.out
        have hle := HE2.out.lt
        by_cases hfo : (decide (l < xi) && decide (xi ≤ 1073741824)) = true
        · have HFO := Lib.hid hfo
          clear hfo
          cases r with
          | none =>
            have HF := Lib.hid (HNO.out (fun h => by have := (h.2 k hk').2.1; rw [HE.out] at this; exact findL_none.1 HRR.out this))
            go_wp2_with fail
            refine (follows_at l xi _ true HFO.out).mono ?_
            rintro e w4 ⟨rfl, rfl⟩
            go_wp2_with fail
            go_ret
            exact ⟨ret_b HF.out, HB3.out⟩
          | some lk =>
            have HLI : Hid (Linked ls xr) := findL_some.1 (by rw [HRR.out]; rfl)
            go_wp2_with fail
            refine (follows_at l xi _ true HFO.out).mono ?_
            rintro e w4 ⟨rfl, rfl⟩
            obtain ⟨f0, f1, f2, _⟩ := blk3 HE3.out
            have hle3 := HE3.out.lt
            obtain ⟨q2, hq2⟩ : ∃ q2 : Bool, q2 = true ↔ Fil.NormIs xf xf 0 := by
              by_cases h : Fil.NormIs xf xf 0
              · exact ⟨true, by simp [h]⟩
              · exact ⟨false, by simp [h]⟩
            have HQ2 := Lib.hid hq2
            clear hq2
            go_wp2_with fail
            refine (fright_q xA xf xn xc HF1.out HPX.out _ HRX3.out q2 HQ2.out).mono ?_
            rintro e w5' ⟨rfl, hb5⟩
            have HB5 := Lib.hid (below_next HB3.out (by have := HB3.out.size; omega) hb5)
            have HX5 := Lib.hid (Blk.below HX3.out hb5 HX3.out.lt)
            have HE5 := Lib.hid (Blk.below HE3.out hb5 HE3.out.lt)
            clear hb5 e0 e1 e2 f0 f1 f2
            obtain ⟨e0, e1, e2, _⟩ := blk3 HE5.out
            have hle5 := HE5.out.lt
            cases q2 with
            | false =>
              have HF := Lib.hid (HNO.out (fun h => by
                have := (h.2 k hk').2.2; rw [HE.out] at this
                have := HQ2.out.2 this; cases this))
              go_wp2_with fail
              go_ret
              exact ⟨ret_b HF.out, HB5.out⟩
            | true =>
              have HA2 : Hid (∀ j (h : j < es.length), j < k + 1 → (decide (last ((es.take j).map Ex.id) < es[j].id) && decide (es[j].id ≤ 1073741824)) = true ∧ Linked ls es[j].fr ∧ Fil.NormIs es[j].f es[j].f 0) := fun j hj hjk => by
                rcases Nat.lt_or_ge j k with h | h
                · exact HA.out j hj h
                · obtain rfl : j = k := by omega
                  rw [HE.out, HLA.out]
                  exact ⟨HFO.out, HLI.out, HQ2.out.1 rfl⟩
              have HLA2 : Hid (last ((es.take (k + 1)).map Ex.id) = xi) := by
                show _ = _
                rw [map_snoc Ex.id hk', HE.out, last_snoc]
              go_wp2_with fail
              go_roundg (m - (k + 1))
              case measure => omega
              case rel => exact ⟨k + 1, xi, by omega, Nat.le_refl _, by go_num, rfl, HB5, HX5, HLA2, HA2⟩
        · have HF := Lib.hid (HNO.out (fun h => by have := (h.2 k hk').1; rw [HE.out, HLA.out] at this; exact hfo this))
          have HFO : Hid ((decide (l < xi) && decide (xi ≤ 1073741824)) = false) := by show _ = _; simpa using hfo
          clear hfo
          go_wp2_with fail
          refine (follows_at l xi _ false HFO.out).mono ?_
          rintro e w4 ⟨rfl, rfl⟩
          go_wp2_with fail
          go_ret
          exact ⟨ret_b HF.out, HB3.out⟩
      · have HF : Hid (true = q) := (HQ.out.2 ⟨HL.out, fun j hj => HA.out j hj (by have := HN.out; omega)⟩).symm
        go_wp2_with fail
        go_ret
        exact ⟨ret_b HF.out, HB.out⟩
set_option maxRecDepth 100000 in
set_option maxHeartbeats 2000000 in
theorem right_st (s : Sx) (ln : s.Len) (fw : s.Few) (pa : PBs s.av) (pu : PBs s.su) (w : World) (hr : s.Rd w) (q : Bool) (hq : q = true ↔ Tb.Right s.bk) :
    Calls Tryz.prog 33 #[s.v] w fun e w' => e = .returned (.bool q) ∧ Below w.heap.size w w' := by
  obtain ⟨ep, A, n, c, ls, A1, n1, c1, av, A2, n2, c2, su⟩ := s
  have LN := Lib.hid ln
  have FW := Lib.hid fw
  have PA := Lib.hid pa
  have PU := Lib.hid pu
  have HQ := Lib.hid hq
  have hB0 := (gr1 w (.cells #[.int .i64 ep, .slice A n c, .slice A1 n1 c1, .slice A2 n2 c2] 52)).below
  have HX0 := Lib.hid (Blk.new w 52 #[.int .i64 ep, .slice A n c, .slice A1 n1 c1, .slice A2 n2 c2])
  have HB0 := Lib.hid hB0
  have HR0 := Lib.hid (hr.below hB0)
  obtain ⟨x0, x1, x2, x3, _⟩ := blk4 HX0.out
  have hl := HX0.out.lt
  clear ln fw pa pu hq hr hB0
  by_cases h1 : 0 ≤ ep
  · have d1 : decide (0 ≤ ep) = true := decide_eq_true h1
    by_cases h2 : ep ≤ 1099511627776
    · have d2 : decide (ep ≤ 1099511627776) = true := decide_eq_true h2
      obtain ⟨q1, hq1⟩ : ∃ q1 : Bool, q1 = true ↔ LinksOk ls := by
        by_cases h : LinksOk ls
        · exact ⟨true, by simp [h]⟩
        · exact ⟨false, by simp [h]⟩
      have Hq1 := Lib.hid hq1
      clear hq1
      obtain ⟨q2, hq2⟩ : ∃ q2 : Bool, q2 = true ↔ EntsOk ls (av.map Ex.en) := by
        by_cases h : EntsOk ls (av.map Ex.en)
        · exact ⟨true, by simp [h]⟩
        · exact ⟨false, by simp [h]⟩
      have Hq2 := Lib.hid hq2
      clear hq2
      obtain ⟨q3, hq3⟩ : ∃ q3 : Bool, q3 = true ↔ EntsOk ls (su.map Ex.en) := by
        by_cases h : EntsOk ls (su.map Ex.en)
        · exact ⟨true, by simp [h]⟩
        · exact ⟨false, by simp [h]⟩
      have Hq3 := Lib.hid hq3
      clear hq3
      have HE0 := Lib.hid h1
      have HE1 := Lib.hid h2
      clear h1 h2
      go_enter Tryz.func33, Tryz.ntmps33
      go_wp2_with fail
      cases q1 with
      | false =>
        have HF : Hid (false = q) := by
          show _ = _
          cases q with
          | false => rfl
          | true => exact absurd (HQ.out.1 rfl) (fun h => by have := Hq1.out.2 h.ls; cases this)
        refine (rightLinks_at A ls n c LN.out.n FW.out.n _ HR0.out.ls false Hq1.out).mono ?_
        rintro e w1 ⟨rfl, hb⟩
        have HB1 := Lib.hid (below_next HB0.out (by have := HB0.out.size; omega) hb)
        have HX1 := Lib.hid (Blk.below HX0.out hb HX0.out.lt)
        have HR1 := Lib.hid (HR0.out.below hb)
        clear hb x0 x1 x2 x3 hl
        obtain ⟨x0, x1, x2, x3, _⟩ := blk4 HX1.out
        have hl := HX1.out.lt
        go_wp2_with fail
        go_ret
        exact ⟨ret_b HF.out, HB1.out⟩
      | true =>
        refine (rightLinks_at A ls n c LN.out.n FW.out.n _ HR0.out.ls true Hq1.out).mono ?_
        rintro e w1 ⟨rfl, hb⟩
        have HB1 := Lib.hid (below_next HB0.out (by have := HB0.out.size; omega) hb)
        have HX1 := Lib.hid (Blk.below HX0.out hb HX0.out.lt)
        have HR1 := Lib.hid (HR0.out.below hb)
        clear hb x0 x1 x2 x3 hl
        obtain ⟨x0, x1, x2, x3, _⟩ := blk4 HX1.out
        have hl := HX1.out.lt
        go_wp2_with fail
        cases q2 with
        | false =>
          have HF : Hid (false = q) := by
            show _ = _
            cases q with
            | false => rfl
            | true => exact absurd (HQ.out.1 rfl) (fun h => by have := Hq2.out.2 h.av; cases this)
          refine (rightEnts_at ep A n c ls A1 n1 c1 A2 n2 c2 LN.out.n FW.out.n A1 av n1 c1 LN.out.n1 FW.out.n1 PA.out _ HR1.out.ls HR1.out.av false Hq2.out).mono ?_
          rintro e w2 ⟨rfl, hb⟩
          have HB2 := Lib.hid (below_next HB1.out (by have := HB1.out.size; omega) hb)
          have HX2 := Lib.hid (Blk.below HX1.out hb HX1.out.lt)
          have HR2 := Lib.hid (HR1.out.below hb)
          clear hb x0 x1 x2 x3 hl
          obtain ⟨x0, x1, x2, x3, _⟩ := blk4 HX2.out
          have hl := HX2.out.lt
          go_wp2_with fail
          go_ret
          exact ⟨ret_b HF.out, HB2.out⟩
        | true =>
          refine (rightEnts_at ep A n c ls A1 n1 c1 A2 n2 c2 LN.out.n FW.out.n A1 av n1 c1 LN.out.n1 FW.out.n1 PA.out _ HR1.out.ls HR1.out.av true Hq2.out).mono ?_
          rintro e w2 ⟨rfl, hb⟩
          have HB2 := Lib.hid (below_next HB1.out (by have := HB1.out.size; omega) hb)
          have HX2 := Lib.hid (Blk.below HX1.out hb HX1.out.lt)
          have HR2 := Lib.hid (HR1.out.below hb)
          clear hb x0 x1 x2 x3 hl
          obtain ⟨x0, x1, x2, x3, _⟩ := blk4 HX2.out
          have hl := HX2.out.lt
          go_wp2_with fail
          have HF : Hid (q3 = q) := by
            show _ = _
            refine Bool.eq_iff_iff.2 (Iff.trans ?_ HQ.out.symm)
            exact ⟨fun h => ⟨HE0.out, HE1.out, Hq1.out.1 (by simp), Hq2.out.1 (by simp), Hq3.out.1 h⟩, fun h => Hq3.out.2 h.su⟩
          refine (rightEnts_at ep A n c ls A1 n1 c1 A2 n2 c2 LN.out.n FW.out.n A2 su n2 c2 LN.out.n2 FW.out.n2 PU.out _ HR2.out.ls HR2.out.su q3 Hq3.out).mono ?_
          rintro e w3 ⟨rfl, hb⟩
          have HB3 := Lib.hid (below_next HB2.out (by have := HB2.out.size; omega) hb)
          have HX3 := Lib.hid (Blk.below HX2.out hb HX2.out.lt)
          have HR3 := Lib.hid (HR2.out.below hb)
          clear hb x0 x1 x2 x3 hl
          obtain ⟨x0, x1, x2, x3, _⟩ := blk4 HX3.out
          have hl := HX3.out.lt
          go_wp2_with fail
          go_ret
          exact ⟨ret_b HF.out, HB3.out⟩
    · have d2 : decide (ep ≤ 1099511627776) = false := decide_eq_false h2
      have HF : Hid (false = q) := by
        show _ = _
        cases q with
        | false => rfl
        | true => exact absurd (HQ.out.1 rfl) (fun h => h2 h.ep1)
      clear h1 h2
      go_enter Tryz.func33, Tryz.ntmps33
      go_wp2_with fail
      go_ret
      exact ⟨ret_b HF.out, HB0.out⟩
  · have d1 : decide (0 ≤ ep) = false := decide_eq_false h1
    have HF : Hid (false = q) := by
      show _ = _
      cases q with
      | false => rfl
      | true => exact absurd (HQ.out.1 rfl) (fun h => h1 h.ep0)
    clear h1
    go_enter Tryz.func33, Tryz.ntmps33
    go_wp2_with fail
    go_ret
    exact ⟨ret_b HF.out, HB0.out⟩
end Go.Proofs.YtoffnfooeojhnaaGreat
