/- Contracts of the program and of the document (QB, TMath, TRow, TEq, TLink), each used further on. -/
import Derived.Test.YtckabmlilbkmbaaM1
import Derived.Test.YtckabmlilbkmbaaA4
import Derived.Test.YtckabmlilbkmbaaB1
namespace Go.Proofs.Ytckabmlilbkmbaa
open Go.RowKit Go.Sort
def gx (w : World) (n : Nat) (os : Array Obj) : World := { w with drawn := n, heap := w.heap ++ os }
theorem gx_size (w : World) (n : Nat) (os : Array Obj) : (gx w n os).heap.size = w.heap.size + os.size := by simp [gx]
theorem below_gx (w : World) (n : Nat) (os : Array Obj) : Below w.heap.size w (gx w n os) :=
  ⟨rfl, rfl, rfl, by rw [gx_size]; omega, fun k hk => by show (w.heap ++ os)[k]? = _; rw [Array.getElem?_append_left hk]⟩
theorem gx_of {w w' : World} (h : Below w.heap.size w w') : ∃ p : GrownBy, w' = gx w p.n p.os := by
  have hh : w'.heap = w.heap ++ w'.heap.extract w.heap.size w'.heap.size := by
    refine Array.ext_getElem? fun i => ?_
    by_cases hi : i < w.heap.size
    · rw [Array.getElem?_append_left hi]; exact h.block i hi
    · rw [Array.getElem?_append_right (by omega), Array.getElem?_extract]
      by_cases hj : i < w'.heap.size
      · rw [if_pos (by omega)]; congr 1; omega
      · rw [if_neg (by omega)]; exact Array.getElem?_eq_none (by omega)
  have h1 := h.os
  have h2 := h.tape
  have h3 := h.output
  refine ⟨⟨w'.drawn, w'.heap.extract w.heap.size w'.heap.size⟩, ?_⟩
  show w' = { w with drawn := w'.drawn, heap := w.heap ++ w'.heap.extract w.heap.size w'.heap.size }
  rw [← hh, ← h1, ← h2, ← h3]
theorem gx_cell {w : World} {a : Addr} {v : Value} (h : w.cell? a = some v) (n : Nat) (os : Array Obj) : (gx w n os).cell? a = some v :=
  ((below_gx w n os).cell (World.block_lt_of_cell? w _ h)).trans h
theorem calls_gx {P : Program} {f : FuncId} {args : Array Value} {w : World} {n : Nat} {os : Array Obj} {v : Value}
    (h : Calls P f args (gx w n os) fun e w' => e = .returned v ∧ Below (gx w n os).heap.size (gx w n os) w') : Calls P f args (gx w n os) fun e w'' => e = .returned v ∧ ∃ p : GrownBy, w'' = gx w p.n p.os :=
  h.mono fun _ _ ⟨he, hb⟩ => ⟨he, gx_of (below_next (below_gx w n os) (Nat.le_refl _) hb)⟩
/-- A call's contract that speaks of a world that has grown. -/
theorem calls_gr {P : Program} {f : FuncId} {args : Array Value} {w : World} {n : Nat} {os : Array Obj} {v : Value}
    (h : Calls P f args (gx w n os) fun e w' => e = .returned v ∧ Grown (gx w n os) w') : Calls P f args (gx w n os) fun e w'' => e = .returned v ∧ ∃ p : GrownBy, w'' = gx w p.n p.os :=
  calls_gx (h.mono fun _ _ ⟨he, hg⟩ => ⟨he, hg.below⟩)
theorem qb_region {P : Program} {id : Nat} {Q : Exit → Act → World → Prop} {a : Act} {w : World} {l : List Oper} (hm : P.follows .mixedOrders = true) (hB : Region.lexB .any l.toArray = true)
    (h : HQ P l.toArray (fun w' => ∃ p : GrownBy, w' = gx w p.n p.os) (fun a' => ∀ w', (∃ p : GrownBy, w' = gx w p.n p.os) → Q .normal a' w') l a) : (Code.region id l.toArray true).wp P Q a w :=
  wp_region_quiet (C := fun w' => ∃ p : GrownBy, w' = gx w p.n p.os) hm hB ⟨⟨w.drawn + 1, #[]⟩, by simp [gx]⟩ (by simpa using h.out)
end Go.Proofs.Ytckabmlilbkmbaa
namespace Go.Proofs.Ytckabmlilbkmbaa
namespace Tb
open Spans
/-- A link. -/
structure Lk where
  id : Int
  ad : List UInt8
instance : Inhabited Lk := ⟨⟨0, []⟩⟩
instance : DecidableEq Lk := fun a b => decidable_of_iff (a.id = b.id ∧ a.ad = b.ad) (by cases a; cases b; simp)
/-- An entry. -/
structure En where
  id : Int
  fr : Int
  f : List Pr
instance : Inhabited En := ⟨⟨0, 0, []⟩⟩
instance : DecidableEq En := fun a b => decidable_of_iff (a.id = b.id ∧ a.fr = b.fr ∧ a.f = b.f) (by cases a; cases b; simp)
/-- A state. -/
structure Bk where
  ep : Int
  ls : List Lk
  av : List En
  su : List En
instance : DecidableEq Bk := fun a b => decidable_of_iff (a.ep = b.ep ∧ a.ls = b.ls ∧ a.av = b.av ∧ a.su = b.su) (by cases a; cases b; simp)
/-- Ids that rise. -/
def Rise (l : List Int) : Prop := l.Pairwise (fun a b => a < b) ∧ ∀ x ∈ l, 1 ≤ x ∧ x ≤ 1073741824
def last (l : List Int) : Int := l.getLast?.getD 0
theorem Rise.sub {l m : List Int} (h : Rise l) (hs : m.Sublist l) : Rise m := ⟨h.1.sublist hs, fun x hx => h.2 x (hs.subset hx)⟩
theorem Rise.lt {A : Type} {g : A → Int} {l : List A} (h : Rise (l.map g)) {i k : Nat} (hk : k < l.length) (hik : i < k) : g (l[i]'(Nat.lt_trans hik hk)) < g l[k] := by
  have := (List.pairwise_iff_getElem.1 h.1) i k (by simp; omega) (by simp; omega) hik
  simpa using this
theorem Rise.inj {A : Type} {g : A → Int} {l : List A} (h : Rise (l.map g)) {i k : Nat} (hi : i < l.length) (hk : k < l.length) (e : g l[i] = g l[k]) : i = k := by
  rcases Nat.lt_trichotomy i k with h1 | h1 | h1
  · have := h.lt hk h1; omega
  · exact h1
  · have := h.lt hi h1; omega
theorem Rise.mem {A : Type} {g : A → Int} {l : List A} (h : Rise (l.map g)) {a b : A} (ha : a ∈ l) (hb : b ∈ l) (e : g a = g b) : a = b := by
  obtain ⟨i, hi, rfl⟩ := List.mem_iff_getElem.1 ha
  obtain ⟨k, hk, rfl⟩ := List.mem_iff_getElem.1 hb
  have := h.inj hi hk e
  subst this; rfl
/-! A row without one of it. -/
def cut {A : Type} (l : List A) (k : Nat) : List A := l.take k ++ l.drop (k + 1)
theorem cut_sub {A : Type} (l : List A) (k : Nat) : (cut l k).Sublist l := by
  unfold cut
  conv => rhs; rw [← List.take_append_drop k l]
  exact List.Sublist.append (List.Sublist.refl _) (by rw [show k + 1 = k + 1 from rfl, ← List.drop_drop]; exact List.drop_sublist _ _)
/-! Which states are right. -/
def LinksOk (ls : List Lk) : Prop := ls.length ≤ 16 ∧ Rise (ls.map Lk.id) ∧ ∀ k ∈ ls, k.ad.length ≤ 32
def Linked (ls : List Lk) (i : Int) : Prop := ∃ k ∈ ls, k.id = i
def EntsOk (ls : List Lk) (l : List En) : Prop := l.length ≤ 64 ∧ Rise (l.map En.id) ∧ ∀ e ∈ l, Linked ls e.fr ∧ Fil.NormIs e.f e.f 0
structure Right (s : Bk) : Prop where
  ep0 : 0 ≤ s.ep
  ep1 : s.ep ≤ 1099511627776
  ls : LinksOk s.ls
  av : EntsOk s.ls s.av
  su : EntsOk s.ls s.su
theorem EntsOk.sub {ls : List Lk} {l m : List En} (h : EntsOk ls l) (hs : m.Sublist l) : EntsOk ls m :=
  ⟨Nat.le_trans hs.length_le h.1, h.2.1.sub (hs.map _), fun e he => h.2.2 e (hs.subset he)⟩
theorem LinksOk.sub {l m : List Lk} (h : LinksOk l) (hs : m.Sublist l) : LinksOk m :=
  ⟨Nat.le_trans hs.length_le h.1, h.2.1.sub (hs.map _), fun e he => h.2.2 e (hs.subset he)⟩
def findL (ls : List Lk) (i : Int) : Option Lk := ls.find? fun k => decide (k.id = i)
def findE (l : List En) (i : Int) : Option En := l.find? fun e => decide (e.id = i)
theorem Right.less {s : Bk} (h : Right s) (k : Nat) : Right { s with su := cut s.su k } := ⟨h.ep0, h.ep1, h.ls, h.av, h.su.sub (cut_sub _ _)⟩
end Tb
end Go.Proofs.Ytckabmlilbkmbaa
namespace Go.Proofs.Ytckabmlilbkmbaa
open Go.RowKit Go.Sort Spans Tb
def cellsL (a : Lk) : List Value := [.int .i64 a.id, .string ⟨a.ad.toArray⟩]
/-- An entry, and where its filter lies. -/
structure Ex where
  id : Int
  fr : Int
  A : Option Addr
  n : Nat
  c : Nat
  f : List Pr
instance : Inhabited Ex := ⟨⟨0, 0, none, 0, 0, []⟩⟩
abbrev Ex.en (x : Ex) : En := ⟨x.id, x.fr, x.f⟩
def cellsE (x : Ex) : List Value := [.int .i64 x.id, .int .i64 x.fr, .slice x.A x.n x.c]
def layE : Lay Ex where
  enc := cellsE
  k := 3
  T := 28
  zero := #[.int .i64 0, .int .i64 0, .slice none 0 0]
  bytes := 40
  len := fun _ => rfl
  one := fun a v hv => by simp [cellsE] at hv; rcases hv with rfl | rfl | rfl <;> rfl
  pos := by decide
  zlen := rfl
  info := by kernel_rfl
/-- An entry's filter in memory. -/
def Flt (w : World) (x : Ex) : Prop := x.f.length = x.n ∧ x.n ≤ x.c ∧ RdQ w x.A x.f
/-- A filter that the call itself made. -/
def FltO (w : World) (base : Nat) (x : Ex) : Prop := x.f.length = x.n ∧ x.n ≤ x.c ∧ OwnQ w base (.slice x.A x.n x.c) x.f
theorem Flt.below {w w' : World} {x : Ex} (h : Flt w x) (hb : Below w.heap.size w w') : Flt w' x := ⟨h.1, h.2.1, RdK.below h.2.2 hb⟩
theorem FltO.below {w w' : World} {base : Nat} {x : Ex} (h : FltO w base x) (hb : Below w.heap.size w w') : FltO w' base x := ⟨h.1, h.2.1, OwnK.below h.2.2 hb⟩
theorem FltO.less {w : World} {base base' : Nat} {x : Ex} (h : FltO w base x) (hb : base' ≤ base) : FltO w base' x := ⟨h.1, h.2.1, OwnK.less h.2.2 hb⟩
theorem FltO.rd {w : World} {base : Nat} {x : Ex} (h : FltO w base x) : Flt w x := by
  obtain ⟨_, _, e, _, hr⟩ := OwnK.rd h.2.2
  injection e with e1 e2 e3
  exact ⟨h.1, h.2.1, by rw [e1]; exact hr⟩
def RdEn (w : World) (A : Option Addr) (xs : List Ex) : Prop := RdK layE w A xs ∧ ∀ x ∈ xs, Flt w x
def OwnEn (w : World) (base : Nat) (v : Value) (xs : List Ex) : Prop := OwnK layE w base v xs ∧ ∀ x ∈ xs, FltO w base x
theorem RdEn.below {w w' : World} {A : Option Addr} {xs : List Ex} (h : RdEn w A xs) (hb : Below w.heap.size w w') : RdEn w' A xs := ⟨RdK.below h.1 hb, fun x hx => (h.2 x hx).below hb⟩
theorem OwnEn.below {w w' : World} {base : Nat} {v : Value} {xs : List Ex} (h : OwnEn w base v xs) (hb : Below w.heap.size w w') : OwnEn w' base v xs := ⟨OwnK.below h.1 hb, fun x hx => (h.2 x hx).below hb⟩
theorem OwnEn.less {w : World} {base base' : Nat} {v : Value} {xs : List Ex} (h : OwnEn w base v xs) (hb : base' ≤ base) : OwnEn w base' v xs := ⟨OwnK.less h.1 hb, fun x hx => (h.2 x hx).less hb⟩
theorem OwnEn.rd {w : World} {base : Nat} {A : Option Addr} {n c : Nat} {xs : List Ex} (h : OwnEn w base (.slice A n c) xs) : RdEn w A xs := by
  obtain ⟨_, _, e, _, hr⟩ := OwnK.rd h.1
  injection e with e1 e2 e3
  exact ⟨by rw [e1]; exact hr, fun x hx => (h.2 x hx).rd⟩
theorem RdEn.nil (w : World) (A : Option Addr) : RdEn w A [] := ⟨.inl rfl, fun x hx => by cases hx⟩
theorem RdEn.at3 {w : World} {A : Option Addr} {es : List Ex} (h : RdEn w A es) {k : Nat} (hk : k < es.length) : ∃ g off, A = some ⟨g, off, none⟩ ∧ g < w.heap.size ∧
    w.cell? ⟨g, off + k * 3, none⟩ = some (.int .i64 es[k].id) ∧ w.cell? ⟨g, off + k * 3 + 1, none⟩ = some (.int .i64 es[k].fr) ∧ w.cell? ⟨g, off + k * 3 + 2, none⟩ = some (.slice es[k].A es[k].n es[k].c) ∧ Flt w es[k] := by
  obtain ⟨g, off, rfl, hg, hc⟩ := RdK.at_ h.1 hk
  exact ⟨g, off, rfl, hg, hc 0 _ rfl, hc 1 _ rfl, hc 2 _ rfl, h.2 _ (List.getElem_mem hk)⟩
theorem underE : Try.prog.underlying 22 = some (.slice layE.T) := Try.underlying22
/-- A state by value. -/
structure Sx where
  ep : Int
  A : Option Addr
  n : Nat
  c : Nat
  ls : List Lk
  A1 : Option Addr
  n1 : Nat
  c1 : Nat
  av : List Ex
  A2 : Option Addr
  n2 : Nat
  c2 : Nat
  su : List Ex
abbrev Sx.v (s : Sx) : Value := .agg #[.int .i64 s.ep, .slice s.A s.n s.c, .slice s.A1 s.n1 s.c1, .slice s.A2 s.n2 s.c2]
abbrev Sx.bk (s : Sx) : Bk := ⟨s.ep, s.ls, s.av.map Ex.en, s.su.map Ex.en⟩
structure Sx.Len (s : Sx) : Prop where
  n : s.ls.length = s.n
  c : s.n ≤ s.c
  n1 : s.av.length = s.n1
  c1 : s.n1 ≤ s.c1
  n2 : s.su.length = s.n2
  c2 : s.n2 ≤ s.c2
theorem rdk_own {α : Type} {L : Lay α} {w : World} {base : Nat} {A : Option Addr} {n c : Nat} {es : List α} (h : OwnK L w base (.slice A n c) es) : RdK L w A es := by
  obtain ⟨_, _, e, _, hr⟩ := OwnK.rd h
  injection e with e1 e2 e3
  rw [e1]; exact hr
/-- Bounds of what is read: names, texts, ints of 64 bits. -/
def PBx (f : List Pr) : Prop := ∀ p ∈ f, p.n.length ≤ 9223372036854775807 ∧ p.t.length ≤ 9223372036854775807 ∧ -9223372036854775808 ≤ p.i ∧ p.i ≤ 9223372036854775807
def EBx (xs : List Ex) : Prop := ∀ x ∈ xs, x.n ≤ 2600000000000 ∧ -9223372036854775808 ≤ x.id ∧ x.id ≤ 9223372036854775807 ∧ PBx x.f
def LBx (l : List Lk) : Prop := ∀ k ∈ l, k.ad.length ≤ 9223372036854775807 ∧ -9223372036854775808 ≤ k.id ∧ k.id ≤ 9223372036854775807
end Go.Proofs.Ytckabmlilbkmbaa
namespace Go.Proofs.Ytckabmlilbkmbaa
open Go.RowKit Spans Op Tb
end Go.Proofs.Ytckabmlilbkmbaa
namespace Go.Proofs.Ytckabmlilbkmbaa
open Go.RowKit Go.Sort Spans Tb
abbrev lkV (a : Lk) : Value := .agg #[.int .i64 a.id, .string ⟨a.ad.toArray⟩]
end Go.Proofs.Ytckabmlilbkmbaa
