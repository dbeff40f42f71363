/- Contracts of the program and of the document (GMath, GBd, SEnd, SHas, SCop, RowZ, RowI, QB, TMath, TRow, ERight), each used further on. -/
import Derived.Lib.MinMax
import Derived.BigQuiet
import Derived.Lib.Hide
import Derived.Deep.LoopGhost
import Derived.Laws.Append
import Derived.Test.YtnfigjggjmncdaaP1
import Derived.Test.YtnfigjggjmncdaaP2
namespace Go.Proofs.Ytnfigjggjmncdaa
namespace Fil
open Spans Ev Op
/-- The predicates of one name. -/
def of (f : List Pr) (n : List UInt8) : List Pr := f.filter fun p => decide (p.n = n)
theorem mem_of {f : List Pr} {n : List UInt8} {p : Pr} : p ∈ of f n ↔ p ∈ f ∧ p.n = n := by unfold of; simp
/-- A name that is asked. -/
def Asked (f : List Pr) (n : List UInt8) : Prop := ∃ p ∈ f, p.n = n
instance (f : List Pr) (n : List UInt8) : Decidable (Asked f n) := inferInstanceAs (Decidable (∃ p ∈ f, p.n = n))
/-- The names, rising, each once. -/
def IsNames (f : List Pr) (L : List (List UInt8)) : Prop := L.Pairwise (fun a b => bytesLess a b = true) ∧ ∀ n, n ∈ L ↔ Asked f n
theorem IsNames.one {f : List Pr} {L M : List (List UInt8)} (h : IsNames f L) (k : IsNames f M) : L = M :=
  rise_ext (fun x y hx hy => by rw [Vals.less_asym _ _ hx] at hy; cases hy) L M h.1 k.1 fun x => (h.2 x).trans (k.2 x).symm
theorem IsNames.nodup {f : List Pr} {L : List (List UInt8)} (h : IsNames f L) : L.Nodup := h.1.imp fun {a b} hab e => by rw [e, Vals.less_irr] at hab; cases hab
theorem IsNames.nil : IsNames [] [] := ⟨.nil, fun n => by simp [Asked]⟩
/-- The span of each name. -/
def IsSpans (f : List Pr) (S : List UInt8 → Sp) : Prop := ∀ n, Asked f n → IsAll (of f n) (S n)
theorem IsSpans.one {f : List Pr} {S T : List UInt8 → Sp} (h : IsSpans f S) (k : IsSpans f T) {n : List UInt8} (hn : Asked f n) : S n = T n := (h n hn).one (k n hn)
def AllRight (f : List Pr) : Prop := ∀ p ∈ f, rightP p = true
instance (f : List Pr) : Decidable (AllRight f) := inferInstanceAs (Decidable (∀ p ∈ f, _ = _))
def Sound (f : List Pr) : Prop := f.length ≤ 24 ∧ AllRight f
instance (f : List Pr) : Decidable (Sound f) := inferInstanceAs (Decidable (_ ∧ _))
def Void (f : List Pr) (S : List UInt8 → Sp) : Prop := ∃ p ∈ f, (S p.n).kind = 0
theorem Void.one {f : List Pr} {S T : List UInt8 → Sp} (h : IsSpans f S) (k : IsSpans f T) (v : Void f S) : Void f T := by
  obtain ⟨p, hp, e⟩ := v
  exact ⟨p, hp, by rw [← h.one k ⟨p, hp, rfl⟩]; exact e⟩
def outOf (L : List (List UInt8)) (S : List UInt8 → Sp) : List Pr := L.flatMap fun n => predsOf n (S n)
theorem outOf_one {f : List Pr} {L : List (List UInt8)} {S T : List UInt8 → Sp} (hL : IsNames f L) (h : IsSpans f S) (k : IsSpans f T) : outOf L S = outOf L T := by
  unfold outOf
  rw [List.flatMap_def, List.flatMap_def]
  refine congrArg _ (List.map_congr_left fun n hn => ?_)
  rw [h.one k ((hL.2 n).1 hn)]
/-- What Norm tells of a filter whose predicates are right, and few. -/
def NormG (f : List Pr) (out : List Pr) (e : Int) : Prop :=
  ∃ S L, IsSpans f S ∧ IsNames f L ∧ ((Void f S ∧ out = [] ∧ e = 9) ∨ (¬ Void f S ∧ 24 < (outOf L S).length ∧ out = [] ∧ e = 4) ∨ (¬ Void f S ∧ (outOf L S).length ≤ 24 ∧ out = outOf L S ∧ e = 0))
/-- What Norm tells. -/
def NormIs (f : List Pr) (out : List Pr) (e : Int) : Prop :=
  (24 < f.length ∧ out = [] ∧ e = 4) ∨ (f.length ≤ 24 ∧ ¬ AllRight f ∧ out = [] ∧ e = 1) ∨ (Sound f ∧ NormG f out e)
theorem NormG.one {f out out' : List Pr} {e e' : Int} (h : NormG f out e) (k : NormG f out' e') : out = out' ∧ e = e' := by
  obtain ⟨S, L, hS, hL, h⟩ := h
  obtain ⟨T, M, hT, hM, k⟩ := k
  obtain rfl := hL.one hM
  have ho := outOf_one hL hS hT
  rcases h with ⟨v, rfl, rfl⟩ | ⟨v, l, rfl, rfl⟩ | ⟨v, l, rfl, rfl⟩ <;> rcases k with ⟨v', rfl, rfl⟩ | ⟨v', l', rfl, rfl⟩ | ⟨v', l', rfl, rfl⟩
  · exact ⟨rfl, rfl⟩
  · exact absurd (v.one hS hT) v'
  · exact absurd (v.one hS hT) v'
  · exact absurd (v'.one hT hS) v
  · exact ⟨rfl, rfl⟩
  · rw [ho] at l; omega
  · exact absurd (v'.one hT hS) v
  · rw [ho] at l; omega
  · exact ⟨ho, rfl⟩
theorem NormIs.one {f out out' : List Pr} {e e' : Int} (h : NormIs f out e) (k : NormIs f out' e') : out = out' ∧ e = e' := by
  rcases h with ⟨a, rfl, rfl⟩ | ⟨a, b, rfl, rfl⟩ | ⟨a, b⟩ <;> rcases k with ⟨a', rfl, rfl⟩ | ⟨a', b', rfl, rfl⟩ | ⟨a', b'⟩
  · exact ⟨rfl, rfl⟩
  · omega
  · have := a'.1; omega
  · omega
  · exact ⟨rfl, rfl⟩
  · exact absurd a'.2 b
  · have := a.1; omega
  · exact absurd a.2 b'
  · exact b.one b'
/-- Which error there is. -/
theorem NormIs.err {f out : List Pr} {e : Int} (h : NormIs f out e) : e = 0 ∨ e = 1 ∨ e = 4 ∨ e = 9 := by
  rcases h with ⟨_, _, rfl⟩ | ⟨_, _, _, rfl⟩ | ⟨_, _, _, _, _, ⟨_, _, rfl⟩ | ⟨_, _, _, rfl⟩ | ⟨_, _, _, rfl⟩⟩ <;> simp
/-- A filter that has a form. -/
structure Good (f out : List Pr) (S : List UInt8 → Sp) (L : List (List UInt8)) : Prop where
  sound : Sound f
  spans : IsSpans f S
  names : IsNames f L
  full : ¬ Void f S
  len : out.length ≤ 24
  is : out = outOf L S
theorem NormIs.wrong {f out : List Pr} {e : Int} (h : NormIs f out e) (hn : f.length ≤ 24) (hr : ¬ AllRight f) : e = 1 := by
  rcases h with ⟨a, _, _⟩ | ⟨_, _, _, rfl⟩ | ⟨hs, _⟩
  · omega
  · rfl
  · exact absurd hs.2 hr
theorem name_len {f : List Pr} (h : AllRight f) {n : List UInt8} (hn : Asked f n) : 1 ≤ n.length ∧ n.length ≤ 16 := by
  obtain ⟨p, hp, rfl⟩ := hn
  obtain ⟨h1, h2, _⟩ := Preds.right_parts ((rightP_iff p).1 (h p hp)).1
  exact ⟨h1, h2⟩
theorem Good.pos {f out : List Pr} {S : List UInt8 → Sp} {L : List (List UInt8)} (h : Good f out S L) {n : List UInt8} (hn : Asked f n) : (S n).kind ≠ 0 := fun e => by
  obtain ⟨p, hp, rfl⟩ := hn
  exact h.full ⟨p, hp, e⟩
theorem Good.fine {f out : List Pr} {S : List UInt8 → Sp} {L : List (List UInt8)} (h : Good f out S L) {n : List UInt8} (hn : Asked f n) : ∀ p ∈ predsOf n (S n), Spans.Fine n p :=
  preds_fine (h.spans n hn).1 (name_len h.sound.2 hn).1 (name_len h.sound.2 hn).2
theorem Good.mem {f out : List Pr} {S : List UInt8 → Sp} {L : List (List UInt8)} (h : Good f out S L) {p : Pr} : p ∈ out ↔ Asked f p.n ∧ p ∈ predsOf p.n (S p.n) := by
  rw [h.is]
  unfold outOf
  rw [List.mem_flatMap]
  constructor
  · rintro ⟨n, hn, hp⟩
    have ha := (h.names.2 n).1 hn
    have := (h.fine ha p hp).2
    subst this
    exact ⟨ha, hp⟩
  · rintro ⟨ha, hp⟩
    exact ⟨p.n, (h.names.2 _).2 ha, hp⟩
theorem Good.asked {f out : List Pr} {S : List UInt8 → Sp} {L : List (List UInt8)} (h : Good f out S L) (n : List UInt8) : Asked out n ↔ Asked f n := by
  constructor
  · rintro ⟨p, hp, rfl⟩
    exact (h.mem.1 hp).1
  · intro hn
    obtain ⟨p, hp⟩ := List.exists_mem_of_ne_nil _ (preds_ne (n := n) (h.pos hn))
    have e := (h.fine hn p hp).2
    subst e
    exact ⟨p, h.mem.2 ⟨hn, hp⟩, rfl⟩
theorem of_flat {S : List UInt8 → Sp} {n : List UInt8} : ∀ L : List (List UInt8), L.Nodup → (∀ m ∈ L, ∀ p ∈ predsOf m (S m), p.n = m) → of (outOf L S) n = if n ∈ L then predsOf n (S n) else []
  | [], _, _ => by simp [outOf, of]
  | m :: L, hd, hf => by
    have ih := of_flat (n := n) L (List.nodup_cons.1 hd).2 fun x hx => hf x (List.mem_cons_of_mem _ hx)
    have e : of (outOf (m :: L) S) n = of (predsOf m (S m)) n ++ of (outOf L S) n := by simp [outOf, of]
    rw [e, ih]
    by_cases hm : n = m
    · subst hm
      have : of (predsOf n (S n)) n = predsOf n (S n) := List.filter_eq_self.2 fun p hp => by simp [hf n (by simp) p hp]
      rw [this, if_neg (List.nodup_cons.1 hd).1]
      simp
    · have : of (predsOf m (S m)) n = [] := List.filter_eq_nil_iff.2 fun p hp => by simp [hf m (by simp) p hp]; exact fun e => hm e.symm
      rw [this]
      simp [hm]
theorem Good.of_ {f out : List Pr} {S : List UInt8 → Sp} {L : List (List UInt8)} (h : Good f out S L) {n : List UInt8} (hn : Asked f n) : of out n = predsOf n (S n) := by
  rw [h.is, of_flat L h.names.nodup fun m hm p hp => (h.fine ((h.names.2 m).1 hm) p hp).2, if_pos ((h.names.2 n).2 hn)]
/-- The one form has itself as its form. -/
theorem Good.again {f out : List Pr} {S : List UInt8 → Sp} {L : List (List UInt8)} (h : Good f out S L) : Good out out S L where
  sound := ⟨h.len, fun p hp => (h.fine (h.mem.1 hp).1 p (h.mem.1 hp).2).1⟩
  spans := fun n hn => by
    have hf := (h.asked n).1 hn
    rw [h.of_ hf]
    exact preds_all (h.spans n hf).1 (h.pos hf) (name_len h.sound.2 hf).1 (name_len h.sound.2 hf).2
  names := ⟨h.names.1, fun n => (h.names.2 n).trans (h.asked n).symm⟩
  full := fun ⟨p, hp, e⟩ => h.pos (h.mem.1 hp).1 e
  len := h.len
  is := h.is
/-- Does an event meet a filter? -/
def meets (f : List Pr) (e : List At) : Bool := f.all fun p => meetsV e p.n p.o p.k p.i p.t
/-- A right event, of ints of sixty-four bits. -/
def EvR (e : List At) : Prop := Ev.Right e ∧ ∀ a ∈ e, -9223372036854775808 ≤ a.i ∧ a.i ≤ 9223372036854775807
theorem EvR.val {e : List At} (h : EvR e) {a : At} (ha : a ∈ e) : rightV ⟨a.k, a.i, a.t⟩ = true := by
  rw [rightV_iff]
  have := h.1.2.1 a ha
  unfold Ev.ok at this
  simp only [Bool.and_eq_true] at this
  exact ⟨this.2, h.2 a ha⟩
theorem meets_pred {p : Pr} {e : List At} : meetsV e p.n p.o p.k p.i p.t = true ↔ ∃ a, find e p.n = some a ∧ holdsP p ⟨a.k, a.i, a.t⟩ = true := by
  unfold meetsV holdsP
  cases find e p.n <;> simp
/-- An event meets a filter just if it has of each name a value of its span. -/
theorem meets_iff {f : List Pr} {S : List UInt8 → Sp} {e : List At} (hS : IsSpans f S) (he : EvR e) : meets f e = true ↔ ∀ n, Asked f n → ∃ a, find e n = some a ∧ has (S n) ⟨a.k, a.i, a.t⟩ = true := by
  unfold meets
  rw [List.all_eq_true]
  constructor
  · rintro h n ⟨p, hp, rfl⟩
    obtain ⟨a, ha, _⟩ := meets_pred.1 (h p hp)
    refine ⟨a, ha, ((hS p.n ⟨p, hp, rfl⟩).2 _ (he.val (find_mem ha))).2 fun q hq => ?_⟩
    obtain ⟨hq, hn⟩ := mem_of.1 hq
    obtain ⟨a', ha', hh⟩ := meets_pred.1 (h q hq)
    rw [hn, ha] at ha'
    injection ha' with e1
    subst e1
    exact hh
  · intro h p hp
    obtain ⟨a, ha, hh⟩ := h p.n ⟨p, hp, rfl⟩
    exact meets_pred.2 ⟨a, ha, ((hS p.n ⟨p, hp, rfl⟩).2 _ (he.val (find_mem ha))).1 hh p (mem_of.2 ⟨hp, rfl⟩)⟩
theorem Good.meets {f out : List Pr} {S : List UInt8 → Sp} {L : List (List UInt8)} (h : Good f out S L) {e : List At} (he : EvR e) : Fil.meets out e = Fil.meets f e := by
  rw [Bool.eq_iff_iff, meets_iff h.again.spans he, meets_iff h.spans he]
  exact ⟨fun k n hn => k n ((h.asked n).2 hn), fun k n hn => k n ((h.asked n).1 hn)⟩
theorem void_meets {f : List Pr} {S : List UInt8 → Sp} {e : List At} (hS : IsSpans f S) (he : EvR e) (v : Void f S) : meets f e = false := by
  cases hm : meets f e with
  | false => rfl
  | true =>
    obtain ⟨p, hp, e0⟩ := v
    obtain ⟨a, _, hh⟩ := (meets_iff hS he).1 hm p.n ⟨p, hp, rfl⟩
    rw [kind_none (hS p.n ⟨p, hp, rfl⟩).1 e0, has_none] at hh
    cases hh
/-- Does a filter cover another one? -/
def Cov (f g : List Pr) : Prop := Sound f ∧ Sound g ∧ ∃ S T, IsSpans f S ∧ IsSpans g T ∧ (Void g T ∨ ∀ n, Asked f n → Asked g n ∧ inn (T n) (S n) = true)
theorem Cov.meets {f g : List Pr} (h : Cov f g) {e : List At} (he : EvR e) (hg : Fil.meets g e = true) : Fil.meets f e = true := by
  obtain ⟨_, _, S, T, hS, hT, h⟩ := h
  rcases h with h | h
  · rw [void_meets hT he h] at hg; cases hg
  · refine (meets_iff hS he).2 fun n hn => ?_
    obtain ⟨a, ha, hh⟩ := (meets_iff hT he).1 hg n (h n hn).1
    exact ⟨a, ha, (in_iff (hT n (h n hn).1).1 (hS n hn).1).1 (h n hn).2 _ hh⟩
/-- Do filters cross? -/
def Cross (f g : List Pr) : Prop := Sound f ∧ Sound g ∧ ∃ S L, IsSpans (f ++ g) S ∧ IsNames (f ++ g) L ∧ L.length ≤ 24 ∧ ¬ Void (f ++ g) S
end Fil
end Go.Proofs.Ytnfigjggjmncdaa
namespace Go.Proofs.Ytnfigjggjmncdaa
open Go.RowKit Spans Op
/-- Predicates of names and texts that are short, and of ints of sixty-four bits. -/
def PBd (f : List Pr) : Prop := ∀ p ∈ f, p.n.length ≤ 100 ∧ p.t.length ≤ 100 ∧ -9223372036854775808 ≤ p.i ∧ p.i ≤ 9223372036854775807
theorem PBd.right {f : List Pr} (h : PBd f) {p : Pr} (hp : p ∈ f) : rightP p = Preds.right p.n p.o p.k p.i p.t := by
  obtain ⟨_, _, h1, h2⟩ := h p hp
  unfold rightP
  simp [h1, h2]
end Go.Proofs.Ytnfigjggjmncdaa
namespace Go.Proofs.Ytnfigjggjmncdaa
open Go.RowKit Spans Op
/-- A span by value, field by field. -/
abbrev spF (K lo hi : Int) (f t : List UInt8) (o : Bool) (A : Option Addr) (n c : Nat) : Value := .agg #[.int .i64 K, .int .i64 lo, .int .i64 hi, .string ⟨f.toArray⟩, .string ⟨t.toArray⟩, .bool o, .slice A n c]
def minT (a b : List UInt8) : List UInt8 := if bytesLess b a = true then b else a
def maxT (a b : List UInt8) : List UInt8 := if bytesLess a b = true then b else a
theorem Grown.drewN {a b : World} (h : Grown a b) (n : Nat) : Grown a (b.drewN n) := h.trans ⟨n, #[], by rw [Go.Sort.grow_empty]⟩
theorem gr1 (w : World) (a : Obj) : Grown w (w.alloc a) := (Grown.refl w).alloc a
theorem gr2 (w : World) (a b : Obj) : Grown w ((w.alloc a).alloc b) := (gr1 w a).alloc b
theorem gr3 (w : World) (a b c : Obj) : Grown w (((w.alloc a).alloc b).alloc c) := (gr2 w a b).alloc c
end Go.Proofs.Ytnfigjggjmncdaa
namespace Go.Proofs.Ytnfigjggjmncdaa
open Go.RowKit Spans Op
end Go.Proofs.Ytnfigjggjmncdaa
namespace Go.Proofs.Ytnfigjggjmncdaa
open Go.RowKit Spans Op
theorem OwnK.set_ {α : Type} {L : Lay α} {w : World} {base : Nat} {v : Value} {es : List α} (h : OwnK L w base v es) {b : Nat} (hb : b < base) (i : Nat) (u : Value) : OwnK L (w.setCell ⟨b, i, none⟩ u) base v es := by
  refine ⟨h.1, ?_⟩
  rcases h.2 with h2 | ⟨g, cap, cur, hv, hbg, hg, r⟩
  · exact .inl h2
  · exact .inr ⟨g, cap, cur, hv, hbg, Blk.far hg (by show g ≠ b; omega) u, r⟩
theorem OwnK.form {α : Type} {L : Lay α} {w : World} {base : Nat} {v : Value} {es : List α} (h : OwnK L w base v es) {n : Nat} (hn : es.length = n) : ∃ A c, v = .slice A n c ∧ n ≤ c ∧ RdK L w A es := by
  subst hn; exact h.rd
theorem below_set {B b i : Nat} {w w' : World} {u : Value} (h : Below B w w') (hb : B ≤ b) : Below B w (w'.setCell ⟨b, i, none⟩ u) :=
  ⟨h.os, h.tape, h.output, by simpa using h.size, fun k hk => (heap_setCell_other w' ⟨b, i, none⟩ k u (by show k ≠ b; omega)).trans (h.block k hk)⟩
/-- A span handed back, its row in new memory. -/
def Gives (w : World) (a : Sp) (e : Ending) (w' : World) : Prop := ∃ A n c, e = .returned (spF a.kind a.lo a.hi a.frm a.to_ a.opn A n c) ∧ a.no.length = n ∧ n ≤ c ∧ OwnW w' w.heap.size (.slice A n c) a.no ∧ Below w.heap.size w w'
theorem Gives.rd {w' : World} {A : Option Addr} {n c : Nat} {b : Nat} {es : List Val} (h : OwnW w' b (.slice A n c) es) : RdW w' A es := by
  obtain ⟨A', c', e, _, hr⟩ := OwnK.rd h
  injection e with e1 e2 e3
  subst e1
  exact hr
end Go.Proofs.Ytnfigjggjmncdaa
namespace Go.Proofs.Ytnfigjggjmncdaa
open Go.RowKit Go.ChangeShapes Go.WideShapes Go.Deep Go.Sort
/-- How a struct lies in memory: its cells, as many of each, none of them more than one; its type, its zero value, its bytes. -/
structure LayZ (α : Type) where
  enc : α → List Value
  k : Nat
  T : TypeId
  zero : Value
  bytes : Nat
  len : ∀ a, (enc a).length = k
  one : ∀ a, ∀ v ∈ enc a, v.oneCell' = true
  pos : 0 < k
  zlen : zero.cells.size = k
  info : (Try.prog.info? T).map (fun i => (i.zero, i.size, i.bytes)) = some (some zero, k, bytes)
section
variable {α : Type} {L : LayZ α}
theorem LayZ.has (L : LayZ α) : ∃ i, Try.prog.info? L.T = some i ∧ i.zero = some L.zero ∧ i.size = L.k ∧ i.bytes = L.bytes := by
  have h := L.info
  cases hq : Try.prog.info? L.T with
  | none => rw [hq] at h; simp at h
  | some i => rw [hq] at h; simp at h; exact ⟨i, rfl, h.1, h.2.1, h.2.2⟩
/-- Structs that a slice's address leads to. -/
def RdZ (L : LayZ α) (w : World) (A : Option Addr) (es : List α) : Prop :=
  es = [] ∨ ∃ g off, A = some ⟨g, off, none⟩ ∧ g < w.heap.size ∧ ∀ i (h : i < es.length) j v, (L.enc es[i])[j]? = some v → w.cell? ⟨g, off + i * L.k + j, none⟩ = some v
theorem RdZ.nil (w : World) (A : Option Addr) : RdZ L w A [] := .inl rfl
theorem RdZ.at_ {w : World} {A : Option Addr} {es : List α} (h : RdZ L w A es) {k : Nat} (hk : k < es.length) :
    ∃ g off, A = some ⟨g, off, none⟩ ∧ g < w.heap.size ∧ ∀ j v, (L.enc es[k])[j]? = some v → w.cell? ⟨g, off + k * L.k + j, none⟩ = some v := by
  rcases h with rfl | ⟨g, off, rfl, hg, hc⟩
  · simp at hk
  · exact ⟨g, off, rfl, hg, hc k hk⟩
theorem RdZ.below {w w' : World} {A : Option Addr} {es : List α} (h : RdZ L w A es) (hb : Below w.heap.size w w') : RdZ L w' A es := by
  rcases h with rfl | ⟨g, off, rfl, hg, hc⟩
  · exact .inl rfl
  · exact .inr ⟨g, off, rfl, Nat.lt_of_lt_of_le hg hb.size, fun i hi j v hv => (hb.cell (p := ⟨g, off + i * L.k + j, none⟩) hg).trans (hc i hi j v hv)⟩
theorem RdZ.take {w : World} {A : Option Addr} {es : List α} (h : RdZ L w A es) (k : Nat) : RdZ L w A (es.take k) := by
  rcases h with rfl | ⟨g, off, rfl, hg, hc⟩
  · exact .inl (by simp)
  · exact .inr ⟨g, off, rfl, hg, fun i hi => by
      have hi' : i < es.length := by simp at hi; omega
      rw [List.getElem_take]; exact hc i hi'⟩
theorem flatZ_length (es : List α) : (es.flatMap L.enc).length = es.length * L.k := by
  induction es with
  | nil => simp
  | cons a r ih => rw [List.flatMap_cons, List.length_append, ih, L.len, List.length_cons, Nat.add_mul, Nat.one_mul, Nat.add_comm]
theorem flatZ_at : ∀ (es : List α) (i : Nat) (h : i < es.length) (j : Nat), j < L.k → (es.flatMap L.enc)[i * L.k + j]? = (L.enc es[i])[j]?
  | [], _, h, _, _ => by simp at h
  | a :: r, 0, _, j, hj => by
    rw [List.flatMap_cons, List.getElem?_append_left (by rw [L.len]; omega)]; simp
  | a :: r, i + 1, h, j, hj => by
    have e : (i + 1) * L.k + j - (L.enc a).length = i * L.k + j := by rw [L.len, Nat.add_mul, Nat.one_mul]; omega
    rw [List.flatMap_cons, List.getElem?_append_right (by rw [L.len, Nat.add_mul, Nat.one_mul]; omega), e, flatZ_at r i (by simpa using h) j hj]; rfl
theorem flatZ_one (es : List α) : ∀ v ∈ es.flatMap L.enc, v.oneCell' = true := by
  intro v hv
  obtain ⟨a, _, hv⟩ := List.mem_flatMap.1 hv
  exact L.one a v hv
theorem flatZ_of {es : List α} {j : Nat} {v : Value} (hv : (es.flatMap L.enc)[j]? = some v) : ∃ (h : j / L.k < es.length), (L.enc es[j / L.k])[j % L.k]? = some v := by
  have hj : j < es.length * L.k := by
    have := (List.getElem?_eq_some_iff.1 hv).1
    rwa [flatZ_length] at this
  have hq : j / L.k < es.length := Nat.div_lt_of_lt_mul (by rwa [Nat.mul_comm] at hj)
  have e : j / L.k * L.k + j % L.k = j := by rw [Nat.mul_comm]; exact Nat.div_add_mod j L.k
  refine ⟨hq, ?_⟩
  rw [← flatZ_at es (j / L.k) hq (j % L.k) (Nat.mod_lt _ L.pos), e]; exact hv
theorem RdZ.src {w : World} {ad : Addr} {es : List α} (h : RdZ L w (some ad) es) : ∀ j v, (es.flatMap L.enc)[j]? = some v → w.cell? (ad.add j) = some v := by
  intro j v hv
  obtain ⟨hq, hv⟩ := flatZ_of hv
  obtain ⟨g, off, e, _, hc⟩ := h.at_ hq
  injection e with e
  subst e
  have e : j / L.k * L.k + j % L.k = j := by rw [Nat.mul_comm]; exact Nat.div_add_mod j L.k
  rw [add_lit]
  have := hc _ v hv
  rw [Nat.add_assoc, e] at this
  exact this
/-- A block whose first cells are structs. -/
theorem rdz_of_flat {w : World} {g : Nat} {t : TypeId} {cur : Array Value} {es : List α} (hg : Blk w g t cur) (h : cur.toList.take (es.length * L.k) = es.flatMap L.enc) : RdZ L w (some ⟨g, 0, none⟩) es := by
  refine .inr ⟨g, 0, rfl, hg.lt, fun i hi j v hv => ?_⟩
  have hj : j < L.k := by have := (List.getElem?_eq_some_iff.1 hv).1; rwa [L.len] at this
  have hb : i * L.k + j < es.length * L.k := by
    have : (i + 1) * L.k ≤ es.length * L.k := Nat.mul_le_mul_right _ (by omega)
    rw [Nat.add_mul, Nat.one_mul] at this; omega
  rw [hg.cell, Nat.zero_add, ← hv, ← flatZ_at es i hi j hj, ← h, List.getElem?_take_of_lt hb]
  simp
/-- A slice of structs that the call itself made. -/
def OwnZ (L : LayZ α) (w : World) (base : Nat) (v : Value) (es : List α) : Prop := w.ownsRow base L.T L.k v es.length (es.flatMap L.enc)
theorem OwnZ.rd {w : World} {base : Nat} {v : Value} {es : List α} (h : OwnZ L w base v es) : ∃ A c, v = .slice A es.length c ∧ es.length ≤ c ∧ RdZ L w A es := by
  rcases h.2 with ⟨rfl, hn⟩ | ⟨g, cap, cur, rfl, _, hg, hc, _, _, ht⟩
  · have : es = [] := List.eq_nil_of_length_eq_zero hn
    subst this
    exact ⟨none, 0, rfl, by simp, .inl rfl⟩
  · exact ⟨_, cap, rfl, hc, rdz_of_flat hg ht⟩
theorem OwnZ.base_le {w : World} {base : Nat} {v : Value} {es : List α} (h : OwnZ L w base v es) : ∀ k, v.ownBlock = some k → base ≤ k := fun k hk => (h.lt k hk).1
theorem OwnZ.none_ (w : World) (base : Nat) : OwnZ L w base (.slice none 0 0) [] := by
  have := World.ownsRow_nil w base L.T L.k
  simpa [OwnZ] using this
/-- '[]T{}' -/
theorem OwnZ.empty (w : World) (base : Nat) (hb : base ≤ w.heap.size) : OwnZ L (w.alloc (.cells #[] L.T)) base (.slice (some ⟨w.heap.size, 0, none⟩) 0 0) [] :=
  ⟨by simp, .inr ⟨w.heap.size, 0, #[], rfl, hb, heap_alloc_new _ _, by simp, by simp, by simp, by simp⟩⟩
theorem OwnZ.below {w w' : World} {base : Nat} {v : Value} {es : List α} (h : OwnZ L w base v es) (hb : Below w.heap.size w w') : OwnZ L w' base v es := by
  refine ⟨h.1, ?_⟩
  rcases h.2 with h2 | ⟨g, cap, cur, hv, hbg, hg, r⟩
  · exact .inl h2
  · exact .inr ⟨g, cap, cur, hv, hbg, (hb.block g (Array.getElem?_eq_some_iff.1 hg).1).trans hg, r⟩
theorem OwnZ.less {w : World} {base base' : Nat} {v : Value} {es : List α} (h : OwnZ L w base v es) (hb : base' ≤ base) : OwnZ L w base' v es := by
  refine ⟨h.1, ?_⟩
  rcases h.2 with h2 | ⟨g, cap, cur, hv, hbg, r⟩
  · exact .inl h2
  · exact .inr ⟨g, cap, cur, hv, Nat.le_trans hb hbg, r⟩
theorem run_append_z (w : World) (base : Nat) (st ty : TypeId) (hst : Try.prog.underlying st = some (.slice L.T)) (v : Value) (es : List α) (hown : OwnZ L w base v es) (A : Option Addr) (fs : List α) (m c : Nat) (hr : RdZ L w A fs) (hm : fs.length = m)
    (h63 : es.length + m ≤ maxLen) (hlb : (es.length + m) * L.bytes ≤ 140737488355328) (hbase : base ≤ w.heap.size) :
    ∃ v' w', (Builtin.append_ #[st, st] ty #[v, .slice A m c]).run Try.prog w = .ok v' w' ∧ OwnZ L w' base v' (es ++ fs) ∧ w.grownBy w' v.ownBlock ∧ (v'.ownBlock = v.ownBlock ∨ v'.ownBlock = some w.heap.size) := by
  subst hm
  obtain ⟨i, hi, hz, hs, hby⟩ := L.has
  rcases A with _ | ad
  · have hfs : fs = [] := by
      rcases hr with h | ⟨_, _, h, _⟩
      · exact h
      · cases h
    subst hfs
    refine ⟨v, w, ?_, by simpa using hown, World.grownBy.refl w _, .inl rfl⟩
    rcases hown.2 with ⟨rfl, _⟩ | ⟨g, cap, cur, rfl, _, _, hnc, _⟩
    · simp [Builtin.append_, run_underlying hst, sizeOf, typeInfo, hi, Builtin.lenOf, Builtin.firstCells]
    · simp [Builtin.append_, run_underlying hst, sizeOf, typeInfo, hi, Builtin.lenOf, Builtin.firstCells, hnc, storeCells]
  · obtain ⟨v', w', hrun, h2, h3, _, h5⟩ := run_append_own_at (P := Try.prog) w base st ty L.T i _ L.k L.bytes hst hi hz hs hby L.zlen L.pos v es.length (es.flatMap L.enc) hown ad fs.length c (fs.flatMap L.enc) (flatZ_length fs) hr.src (flatZ_one fs) h63 hlb hbase
    refine ⟨v', w', hrun, ?_, h3, h5⟩
    unfold OwnZ
    rw [List.length_append, List.flatMap_append]
    exact h2
theorem wpList_append_z (L : LayZ α) {w : World} {ops : Array Oper} {rest : List Oper} {o : Oper} {a : Act} {Q : Exit → Act → World → Prop} (hw : Region.wanted o (yielded ops a.tmps) = true) (s x : Operand) (st : TypeId) (hst : Try.prog.underlying st = some (.slice L.T))
    (ho : o.op = .call { callee := .builtin .append, args := #[s, x], argTypes := #[st, st] }) (base : Nat)
    (v : Value) (es : List α) (hs : a.eval s = v) (hown : OwnZ L w base v es) (A : Option Addr) (fs : List α) (m c : Nat) (hx : a.eval x = .slice A m c) (hr : RdZ L w A fs) (hm : fs.length = m)
    (h63 : es.length + m ≤ maxLen) (hlb : (es.length + m) * L.bytes ≤ 140737488355328) (hbase : base ≤ w.heap.size)
    (h : ∀ v' w', OwnZ L w' base v' (es ++ fs) → (∀ w0, Below base w0 w → Below base w0 w') → w.grownBy w' v.ownBlock → (v'.ownBlock = v.ownBlock ∨ v'.ownBlock = some w.heap.size) → wpList Try.prog ops Q rest (a.put o.dst v') w') : wpList Try.prog ops Q (o :: rest) a w := by
  refine wpList_step fun K hK => ?_
  rw [if_pos hw]
  obtain ⟨v', w', hrun, h2, h3, h4⟩ := run_append_z w base st o.type hst v es hown A fs m c hr hm h63 hlb hbase
  unfold Oper.wp execOp
  simp only [ho, resolve, invoke, builtin, Sem.run_bind, Sem.run_pure, Result.andThen_ok, List.map_toArray, List.map_cons, List.map_nil, hs, hx, hrun]
  exact hK _ _ (h v' w' h2 (fun w0 hb => hb.grown h3 hbase hown.base_le) h3 h4)
/-- One struct in a block of its own, as append of one lays it. -/
theorem rdz_one (L : LayZ α) (w : World) (a : α) (t : TypeId) (cs : Array Value) (h : cs = (L.enc a).toArray) : RdZ L (w.alloc (.cells cs t)) (some ⟨w.heap.size, 0, none⟩) [a] :=
  rdz_of_flat (Blk.new w t _) (by subst h; simp; exact List.take_of_length_le (by rw [L.len]; exact Nat.le_refl _))
/-- Structs that a composite literal lays. -/
theorem rdz_lit (L : LayZ α) (w : World) (es : List α) (t : TypeId) (cs : Array Value) (h : cs = (es.flatMap L.enc).toArray) : RdZ L (w.alloc (.cells cs t)) (some ⟨w.heap.size, 0, none⟩) es :=
  rdz_of_flat (Blk.new w t _) (by subst h; simp; exact List.take_of_length_le (by rw [flatZ_length]; exact Nat.le_refl _))
/-! Rows as the library's contracts want them. -/
end
abbrev RTx : Type := List UInt8
def layT : LayZ (List UInt8) where
  enc := fun t => [.string ⟨t.toArray⟩]
  k := 1
  T := 9
  zero := .string ⟨#[]⟩
  bytes := 16
  len := fun _ => rfl
  one := fun a v hv => by simp at hv; subst hv; rfl
  pos := by decide
  zlen := rfl
  info := by kernel_rfl
abbrev RdTx (w : World) (A : Option Addr) (es : List (List UInt8)) : Prop := RdZ layT w A es
abbrev OwnTx (w : World) (base : Nat) (v : Value) (es : List (List UInt8)) : Prop := OwnZ layT w base v es
theorem OwnZ.form {α : Type} {L : LayZ α} {w : World} {base : Nat} {v : Value} {es : List α} (h : OwnZ L w base v es) {n : Nat} (hn : es.length = n) : ∃ A c, v = .slice A n c ∧ n ≤ c ∧ RdZ L w A es := by
  subst hn
  exact h.rd
theorem RdTx.at1 {w : World} {A : Option Addr} {es : List (List UInt8)} (h : RdTx w A es) {k : Nat} (hk : k < es.length) : ∃ g off, A = some ⟨g, off, none⟩ ∧ g < w.heap.size ∧ w.cell? ⟨g, off + k, none⟩ = some (.string ⟨es[k].toArray⟩) := by
  obtain ⟨g, off, e, hg, hc⟩ := h.at_ hk
  refine ⟨g, off, e, hg, ?_⟩
  have := hc 0 _ rfl
  simpa [layT] using this
/-- A bool tells a fact. -/
def TellB (b : Bool) (P : Prop) : Prop := b = true ↔ P
end Go.Proofs.Ytnfigjggjmncdaa
namespace Go.Proofs.Ytnfigjggjmncdaa
open Go.RowKit Go.ChangeShapes Go.WideShapes Go.Deep Go.Sort
def layI : LayZ Int where
  enc := fun i => [.int .i64 i]
  k := 1
  T := 3
  zero := .int .i64 0
  bytes := 8
  len := fun _ => rfl
  one := fun a v hv => by simp at hv; subst hv; rfl
  pos := by decide
  zlen := rfl
  info := by kernel_rfl
theorem underI : Try.prog.underlying 32 = some (.slice layI.T) := Try.underlying32
def layB : LayZ Bool where
  enc := fun b => [.bool b]
  k := 1
  T := 4
  zero := .bool false
  bytes := 1
  len := fun _ => rfl
  one := fun a v hv => by simp at hv; subst hv; rfl
  pos := by decide
  zlen := rfl
  info := by kernel_rfl
/-- A slice: where it leads, how long, how much room. -/
structure Sl where
  A : Option Addr
  n : Nat
  c : Nat
instance : Inhabited Sl := ⟨⟨none, 0, 0⟩⟩
theorem RdI.at1 {w : World} {A : Option Addr} {es : List Int} (h : RdZ layI w A es) {k : Nat} (hk : k < es.length) : ∃ g off, A = some ⟨g, off, none⟩ ∧ g < w.heap.size ∧ w.cell? ⟨g, off + k, none⟩ = some (.int .i64 es[k]) := by
  obtain ⟨g, off, e, hg, hc⟩ := h.at_ hk
  refine ⟨g, off, e, hg, ?_⟩
  have := hc 0 _ rfl
  simpa [layI] using this
end Go.Proofs.Ytnfigjggjmncdaa
namespace Go.Proofs.Ytnfigjggjmncdaa
open Go.RowKit Go.Sort
def gx (w : World) (n : Nat) (os : Array Obj) : World := { w with drawn := n, heap := w.heap ++ os }
theorem gx_size (w : World) (n : Nat) (os : Array Obj) : (gx w n os).heap.size = w.heap.size + os.size := by simp [gx]
theorem below_gx (w : World) (n : Nat) (os : Array Obj) : Below w.heap.size w (gx w n os) :=
  ⟨rfl, rfl, rfl, by rw [gx_size]; omega, fun k hk => by show (w.heap ++ os)[k]? = _; rw [Array.getElem?_append_left hk]⟩
theorem gx_cell {w : World} {a : Addr} {v : Value} (h : w.cell? a = some v) (n : Nat) (os : Array Obj) : (gx w n os).cell? a = some v :=
  ((below_gx w n os).cell (World.block_lt_of_cell? w _ h)).trans h
theorem qb_region {P : Program} {id : Nat} {Q : Exit → Act → World → Prop} {a : Act} {w : World} {l : List Oper} (hm : P.follows .mixedOrders = true) (hB : Region.lexB .any l.toArray = true)
    (h : HQ P l.toArray (fun w' => ∃ p : GrownBy, w' = gx w p.n p.os) (fun a' => ∀ w', (∃ p : GrownBy, w' = gx w p.n p.os) → Q .normal a' w') l a) : (Code.region id l.toArray true).wp P Q a w :=
  wp_region_quiet (C := fun w' => ∃ p : GrownBy, w' = gx w p.n p.os) hm hB ⟨⟨w.drawn + 1, #[]⟩, by simp [gx]⟩ (by simpa using h.qo)
theorem qbr {id : Nat} {Q : Exit → Act → World → Prop} {a a' : Act} {w : World} {l : List Oper} (h : ∀ nq osq, Q .normal a' (gx w nq osq))
    (hq : HQ Try.prog l.toArray (fun w' => ∃ p : GrownBy, w' = gx w p.n p.os) (fun b => b = a') l a := by (repeat (refine hq_step (fun K hK => ?_); go_simp; refine hK _ ?_; clear hK K)); exact hq_nil rfl)
    (hB : Region.lexB .any l.toArray = true := by kernel_rfl) : (Code.region id l.toArray true).wp Try.prog Q a w :=
  qb_region mixedT hB ⟨hq_mono (by rintro _ rfl w' ⟨p, rfl⟩; exact h _ _) _ _ hq.qo⟩
end Go.Proofs.Ytnfigjggjmncdaa
namespace Go.Proofs.Ytnfigjggjmncdaa
namespace Tb
open Spans
/-- A link. -/
structure Lk where
  id : Int
  ad : List UInt8
instance : Inhabited Lk := ⟨⟨0, []⟩⟩
instance : DecidableEq Lk := fun a b => decidable_of_iff (a.id = b.id ∧ a.ad = b.ad) (by cases a; cases b; simp)
/-- An entry. -/
structure En where
  id : Int
  fr : Int
  f : List Pr
instance : Inhabited En := ⟨⟨0, 0, []⟩⟩
instance : DecidableEq En := fun a b => decidable_of_iff (a.id = b.id ∧ a.fr = b.fr ∧ a.f = b.f) (by cases a; cases b; simp)
/-- A state. -/
structure Bk where
  ep : Int
  ls : List Lk
  av : List En
  su : List En
instance : DecidableEq Bk := fun a b => decidable_of_iff (a.ep = b.ep ∧ a.ls = b.ls ∧ a.av = b.av ∧ a.su = b.su) (by cases a; cases b; simp)
/-- Ids that rise. -/
def Rise (l : List Int) : Prop := l.Pairwise (fun a b => a < b) ∧ ∀ x ∈ l, 1 ≤ x ∧ x ≤ 1073741824
def last (l : List Int) : Int := l.getLast?.getD 0
theorem Rise.sub {l m : List Int} (h : Rise l) (hs : m.Sublist l) : Rise m := ⟨h.1.sublist hs, fun x hx => h.2 x (hs.subset hx)⟩
theorem Rise.lt {A : Type} {g : A → Int} {l : List A} (h : Rise (l.map g)) {i k : Nat} (hk : k < l.length) (hik : i < k) : g (l[i]'(Nat.lt_trans hik hk)) < g l[k] := by
  have := (List.pairwise_iff_getElem.1 h.1) i k (by simp; omega) (by simp; omega) hik
  simpa using this
theorem Rise.inj {A : Type} {g : A → Int} {l : List A} (h : Rise (l.map g)) {i k : Nat} (hi : i < l.length) (hk : k < l.length) (e : g l[i] = g l[k]) : i = k := by
  rcases Nat.lt_trichotomy i k with h1 | h1 | h1
  · have := h.lt hk h1; omega
  · exact h1
  · have := h.lt hi h1; omega
theorem Rise.mem {A : Type} {g : A → Int} {l : List A} (h : Rise (l.map g)) {a b : A} (ha : a ∈ l) (hb : b ∈ l) (e : g a = g b) : a = b := by
  obtain ⟨i, hi, rfl⟩ := List.mem_iff_getElem.1 ha
  obtain ⟨k, hk, rfl⟩ := List.mem_iff_getElem.1 hb
  have := h.inj hi hk e
  subst this; rfl
/-! A row without one of it. -/
def cut {A : Type} (l : List A) (k : Nat) : List A := l.take k ++ l.drop (k + 1)
theorem cut_sub {A : Type} (l : List A) (k : Nat) : (cut l k).Sublist l := by
  unfold cut
  conv => rhs; rw [← List.take_append_drop k l]
  exact List.Sublist.append (List.Sublist.refl _) (by rw [show k + 1 = k + 1 from rfl, ← List.drop_drop]; exact List.drop_sublist _ _)
/-! Which states are right. -/
def LinksOk (ls : List Lk) : Prop := ls.length ≤ 16 ∧ Rise (ls.map Lk.id) ∧ ∀ k ∈ ls, k.ad.length ≤ 32
def Linked (ls : List Lk) (i : Int) : Prop := ∃ k ∈ ls, k.id = i
def EntsOk (ls : List Lk) (l : List En) : Prop := l.length ≤ 64 ∧ Rise (l.map En.id) ∧ ∀ e ∈ l, Linked ls e.fr ∧ Fil.NormIs e.f e.f 0
structure Right (s : Bk) : Prop where
  ep0 : 0 ≤ s.ep
  ep1 : s.ep ≤ 1099511627776
  ls : LinksOk s.ls
  av : EntsOk s.ls s.av
  su : EntsOk s.ls s.su
theorem EntsOk.sub {ls : List Lk} {l m : List En} (h : EntsOk ls l) (hs : m.Sublist l) : EntsOk ls m :=
  ⟨Nat.le_trans hs.length_le h.1, h.2.1.sub (hs.map _), fun e he => h.2.2 e (hs.subset he)⟩
theorem LinksOk.sub {l m : List Lk} (h : LinksOk l) (hs : m.Sublist l) : LinksOk m :=
  ⟨Nat.le_trans hs.length_le h.1, h.2.1.sub (hs.map _), fun e he => h.2.2 e (hs.subset he)⟩
def findL (ls : List Lk) (i : Int) : Option Lk := ls.find? fun k => decide (k.id = i)
def findE (l : List En) (i : Int) : Option En := l.find? fun e => decide (e.id = i)
theorem Right.less {s : Bk} (h : Right s) (k : Nat) : Right { s with su := cut s.su k } := ⟨h.ep0, h.ep1, h.ls, h.av, h.su.sub (cut_sub _ _)⟩
end Tb
end Go.Proofs.Ytnfigjggjmncdaa
namespace Go.Proofs.Ytnfigjggjmncdaa
open Go.RowKit Go.Sort Spans Tb
theorem map_snoc {α β : Type} (g : α → β) {l : List α} {k : Nat} (h : k < l.length) : (l.take (k + 1)).map g = (l.take k).map g ++ [g l[k]] := by
  rw [List.take_succ_eq_append_getElem h, List.map_append]; rfl
theorem cells3 {w : World} {g : Nat} {t : TypeId} {a b c : Value} (hB : Blk w g t #[a, b, c]) :
    w.cell? ⟨g, 0, none⟩ = some a ∧ w.cell? ⟨g, 1, none⟩ = some b ∧ w.cell? ⟨g, 2, none⟩ = some c := ⟨hB.cell 0, hB.cell 1, hB.cell 2⟩
def cellsL (a : Lk) : List Value := [.int .i64 a.id, .string ⟨a.ad.toArray⟩]
/-- An entry, and where its filter lies. -/
structure Ex where
  id : Int
  fr : Int
  A : Option Addr
  n : Nat
  c : Nat
  f : List Pr
instance : Inhabited Ex := ⟨⟨0, 0, none, 0, 0, []⟩⟩
abbrev Ex.en (x : Ex) : En := ⟨x.id, x.fr, x.f⟩
def cellsE (x : Ex) : List Value := [.int .i64 x.id, .int .i64 x.fr, .slice x.A x.n x.c]
def layE : Lay Ex where
  enc := cellsE
  k := 3
  T := 40
  zero := #[.int .i64 0, .int .i64 0, .slice none 0 0]
  bytes := 40
  len := fun _ => rfl
  one := fun a v hv => by simp [cellsE] at hv; rcases hv with rfl | rfl | rfl <;> rfl
  pos := by decide
  zlen := rfl
  info := by kernel_rfl
/-- An entry's filter in memory. -/
def Flt (w : World) (x : Ex) : Prop := x.f.length = x.n ∧ x.n ≤ x.c ∧ RdQ w x.A x.f
/-- A filter that the call itself made. -/
def FltO (w : World) (base : Nat) (x : Ex) : Prop := x.f.length = x.n ∧ x.n ≤ x.c ∧ OwnQ w base (.slice x.A x.n x.c) x.f
theorem Flt.below {w w' : World} {x : Ex} (h : Flt w x) (hb : Below w.heap.size w w') : Flt w' x := ⟨h.1, h.2.1, RdK.below h.2.2 hb⟩
theorem FltO.below {w w' : World} {base : Nat} {x : Ex} (h : FltO w base x) (hb : Below w.heap.size w w') : FltO w' base x := ⟨h.1, h.2.1, OwnK.below h.2.2 hb⟩
theorem FltO.less {w : World} {base base' : Nat} {x : Ex} (h : FltO w base x) (hb : base' ≤ base) : FltO w base' x := ⟨h.1, h.2.1, OwnK.less h.2.2 hb⟩
theorem FltO.rd {w : World} {base : Nat} {x : Ex} (h : FltO w base x) : Flt w x := by
  obtain ⟨_, _, e, _, hr⟩ := OwnK.rd h.2.2
  injection e with e1 e2 e3
  exact ⟨h.1, h.2.1, by rw [e1]; exact hr⟩
def RdEn (w : World) (A : Option Addr) (xs : List Ex) : Prop := RdK layE w A xs ∧ ∀ x ∈ xs, Flt w x
def OwnEn (w : World) (base : Nat) (v : Value) (xs : List Ex) : Prop := OwnK layE w base v xs ∧ ∀ x ∈ xs, FltO w base x
theorem RdEn.below {w w' : World} {A : Option Addr} {xs : List Ex} (h : RdEn w A xs) (hb : Below w.heap.size w w') : RdEn w' A xs := ⟨RdK.below h.1 hb, fun x hx => (h.2 x hx).below hb⟩
theorem OwnEn.below {w w' : World} {base : Nat} {v : Value} {xs : List Ex} (h : OwnEn w base v xs) (hb : Below w.heap.size w w') : OwnEn w' base v xs := ⟨OwnK.below h.1 hb, fun x hx => (h.2 x hx).below hb⟩
theorem OwnEn.less {w : World} {base base' : Nat} {v : Value} {xs : List Ex} (h : OwnEn w base v xs) (hb : base' ≤ base) : OwnEn w base' v xs := ⟨OwnK.less h.1 hb, fun x hx => (h.2 x hx).less hb⟩
theorem OwnEn.rd {w : World} {base : Nat} {A : Option Addr} {n c : Nat} {xs : List Ex} (h : OwnEn w base (.slice A n c) xs) : RdEn w A xs := by
  obtain ⟨_, _, e, _, hr⟩ := OwnK.rd h.1
  injection e with e1 e2 e3
  exact ⟨by rw [e1]; exact hr, fun x hx => (h.2 x hx).rd⟩
theorem RdEn.nil (w : World) (A : Option Addr) : RdEn w A [] := ⟨.inl rfl, fun x hx => by cases hx⟩
theorem RdEn.at3 {w : World} {A : Option Addr} {es : List Ex} (h : RdEn w A es) {k : Nat} (hk : k < es.length) : ∃ g off, A = some ⟨g, off, none⟩ ∧ g < w.heap.size ∧
    w.cell? ⟨g, off + k * 3, none⟩ = some (.int .i64 es[k].id) ∧ w.cell? ⟨g, off + k * 3 + 1, none⟩ = some (.int .i64 es[k].fr) ∧ w.cell? ⟨g, off + k * 3 + 2, none⟩ = some (.slice es[k].A es[k].n es[k].c) ∧ Flt w es[k] := by
  obtain ⟨g, off, rfl, hg, hc⟩ := RdK.at_ h.1 hk
  exact ⟨g, off, rfl, hg, hc 0 _ rfl, hc 1 _ rfl, hc 2 _ rfl, h.2 _ (List.getElem_mem hk)⟩
theorem underE : Try.prog.underlying 22 = some (.slice layE.T) := Try.underlying22
/-- A state by value. -/
structure Sx where
  ep : Int
  A : Option Addr
  n : Nat
  c : Nat
  ls : List Lk
  A1 : Option Addr
  n1 : Nat
  c1 : Nat
  av : List Ex
  A2 : Option Addr
  n2 : Nat
  c2 : Nat
  su : List Ex
abbrev Sx.v (s : Sx) : Value := .agg #[.int .i64 s.ep, .slice s.A s.n s.c, .slice s.A1 s.n1 s.c1, .slice s.A2 s.n2 s.c2]
abbrev Sx.bk (s : Sx) : Bk := ⟨s.ep, s.ls, s.av.map Ex.en, s.su.map Ex.en⟩
structure Sx.Len (s : Sx) : Prop where
  n : s.ls.length = s.n
  c : s.n ≤ s.c
  n1 : s.av.length = s.n1
  c1 : s.n1 ≤ s.c1
  n2 : s.su.length = s.n2
  c2 : s.n2 ≤ s.c2
/-- Bounds of what is read: names, texts, ints of 64 bits. -/
def PBx (f : List Pr) : Prop := ∀ p ∈ f, p.n.length ≤ 9223372036854775807 ∧ p.t.length ≤ 9223372036854775807 ∧ -9223372036854775808 ≤ p.i ∧ p.i ≤ 9223372036854775807
def EBx (xs : List Ex) : Prop := ∀ x ∈ xs, x.n ≤ 2600000000000 ∧ -9223372036854775808 ≤ x.id ∧ x.id ≤ 9223372036854775807 ∧ PBx x.f
def LBx (l : List Lk) : Prop := ∀ k ∈ l, k.ad.length ≤ 9223372036854775807 ∧ -9223372036854775808 ≤ k.id ∧ k.id ≤ 9223372036854775807
end Go.Proofs.Ytnfigjggjmncdaa
namespace Go.Proofs.Ytnfigjggjmncdaa
open Go.RowKit Go.Sort Ev
theorem Cells.grow4 {w : World} {g o : Nat} {a : At} (h : Cells w g o a) (hg : g < w.heap.size) (n : Nat) (os : Array Obj) :
    (grow (w.drewN n) os).cell? ⟨g, o, none⟩ = some (.string ⟨a.n.toArray⟩) ∧ (grow (w.drewN n) os).cell? ⟨g, o + 1, none⟩ = some (.int .i64 a.k) ∧ (grow (w.drewN n) os).cell? ⟨g, o + 2, none⟩ = some (.int .i64 a.i) ∧ (grow (w.drewN n) os).cell? ⟨g, o + 3, none⟩ = some (.string ⟨a.t.toArray⟩) :=
  ⟨cell_grown (a := ⟨g, o, none⟩) hg h.1 n os, cell_grown (a := ⟨g, o + 1, none⟩) hg h.2.1 n os, cell_grown (a := ⟨g, o + 2, none⟩) hg h.2.2.1 n os, cell_grown (a := ⟨g, o + 3, none⟩) hg h.2.2.2 n os⟩
theorem take_fine {es : List At} {k : Nat} (h : ∀ j, j < k → Fine es j) (hk : Fine es k) : ∀ j, j < k + 1 → Fine es j := by
  intro j hj
  rcases Nat.lt_or_ge j k with h1 | h1
  · exact h j h1
  · obtain rfl : j = k := by omega
    exact hk
theorem right_yes {es : List At} (h1 : es.length ≤ 24) (h : ∀ j, j < es.length → Fine es j) : decide (Right es) = true := by
  refine decide_eq_true ((right_iff es).2 ⟨h1, fun k hk => h k hk hk⟩)
theorem right_no {es : List At} (h1 : 24 < es.length) : decide (Right es) = false := decide_eq_false fun h => by have := h.1; omega
theorem right_not {es : List At} {k : Nat} (h : ¬ Fine es k) : decide (Right es) = false := decide_eq_false fun hR => h (((right_iff es).1 hR).2 k)
set_option maxRecDepth 100000 in
set_option maxHeartbeats 1000000 in
theorem eright_at (A : Option Addr) (es : List At) (n c : Nat) (hn : es.length = n) (hm : n ≤ maxLen) (hb : ∀ a ∈ es, a.n.length ≤ maxLen ∧ a.t.length ≤ maxLen) (w : World) (hr : RdA w A es) :
    Calls Try.prog 14 #[.slice A n c] w fun e w' => e = .returned (.bool (decide (Right es))) ∧ Grown w w' := by
  have HN := Lib.hid hn
  rw [maxLen_num] at hm
  simp only [maxLen_num] at hb
  clear hn
  by_cases h24 : n ≤ 24
  · go_enter Try.func14, Try.ntmps14
    have q24 : decide ((24 : Int) < (n : Int)) = false := by simp; omega
    go_wp2_with fail
    clear q24
    go_loopw [10] (fun i wr => ∃ k : Nat, k ≤ n ∧ i = .int .i64 (k : Int) ∧ Hid (Grown w wr) ∧ Hid (∀ j, j < k → Fine es j)) (fun i _ => n - (intOf i).toNat)
    case atStart => exact ⟨0, by omega, rfl, Grown.refl w, fun j hj => absurd hj (by omega)⟩
    case round =>
      obtain ⟨k, hk, rfl, HG, HA⟩ := hrel
      by_cases hlt : k < n
      · have hk' : k < es.length := by rw [HN.out]; exact hlt
        obtain ⟨g, off, rfl, hg, hC⟩ := (hr.below HG.out.below).at_ hk'
        obtain ⟨b1, b2⟩ := hb _ (List.getElem_mem hk')
        have hP : 0 < k → ∃ p, Hid (es[k - 1]'(by omega) = p) ∧ Cells wr g (off + (k - 1) * 4) p := fun h0 => by
          obtain ⟨g', off', e, _, hC'⟩ := (hr.below HG.out.below).at_ (k := k - 1) (by omega)
          cases e
          exact ⟨_, rfl, hC'⟩
        obtain ⟨z, hz⟩ : ∃ z, es[k] = z := ⟨_, rfl⟩
        have HZ := Lib.hid hz
        rw [hz] at hC b1 b2
        clear hz
        obtain ⟨zn, zk, zi, zt⟩ := z
        obtain ⟨c0, c1, c2, c3⟩ := hC
        clear hr hb
        go_wp2_with fail
        have hB := Blk.new wr 49 #[.string ⟨zn.toArray⟩, .int .i64 zk, .int .i64 zi, .string ⟨zt.toArray⟩]
        have HG2 := Lib.hid (HG.out.alloc (.cells #[.string ⟨zn.toArray⟩, .int .i64 zk, .int .i64 zi, .string ⟨zt.toArray⟩] 49))
        have hP2 : 0 < k → ∃ p, Hid (es[k - 1]'(by omega) = p) ∧ Cells (wr.alloc (.cells #[.string ⟨zn.toArray⟩, .int .i64 zk, .int .i64 zi, .string ⟨zt.toArray⟩] 49)) g (off + (k - 1) * 4) p := fun h0 => by
          obtain ⟨p, e, hc⟩ := hP h0
          exact ⟨p, e, hc.below ((Below.refl _ _).alloc (Nat.le_refl _) _) hg⟩
        have hg2 : g < (wr.alloc (.cells #[.string ⟨zn.toArray⟩, .int .i64 zk, .int .i64 zi, .string ⟨zt.toArray⟩] 49)).heap.size := by simp; omega
        generalize wr.alloc (.cells #[.string ⟨zn.toArray⟩, .int .i64 zk, .int .i64 zi, .string ⟨zt.toArray⟩] 49) = w1 at *
        clear hP c0 c1 c2 c3 HG
        obtain ⟨G, hG⟩ : ∃ G, wr.heap.size = G := ⟨_, rfl⟩
        rw [hG] at hB ⊢
        clear hG
        have d0 := fun n os => cell_grown (w := w1) (a := ⟨G, 0, none⟩) hB.lt (hB.cell 0) n os
        have d1 := fun n os => cell_grown (w := w1) (a := ⟨G, 1, none⟩) hB.lt (hB.cell 1) n os
        have d2 := fun n os => cell_grown (w := w1) (a := ⟨G, 2, none⟩) hB.lt (hB.cell 2) n os
        have d3 := fun n os => cell_grown (w := w1) (a := ⟨G, 3, none⟩) hB.lt (hB.cell 3) n os
        simp at d0 d1 d2 d3
        have hcall : ∀ n' os', Calls Try.prog 19 #[.agg #[.string ⟨zn.toArray⟩, .int .i64 zk, .int .i64 zi, .string ⟨zt.toArray⟩]] (grow (w1.drewN n') os') fun e w' => e = .returned (.bool (ok ⟨zn, zk, zi, zt⟩)) ∧ ∃ q os'', w' = grow ((grow (w1.drewN n') os').drewN q) os'' := fun n' os' => rightAttr_at zn zk zi zt _ b1 b2
        cases hok : ok ⟨zn, zk, zi, zt⟩ with
        | false =>
          have HF : Hid (decide (Right es) = false) := right_not (k := k) fun h => by
            have := (h hk').1; rw [HZ.out, hok] at this; cases this
          rw [hok] at hcall
          clear hP2 hok
          refine qgr (fun nq osq => ?_) (hq := by (repeat (refine hq_step (fun K hK => ?_); go_simp; first | (refine hK _ ?_; clear hK K) | (apply Exists.intro; refine ⟨fun _ => ?_, hK _ ?_⟩; (go_at_call 19; refine Calls.grown_of (hcall _ _)); clear hK K))); exact hq_nil rfl)
          go_wp2_with fail
          go_ret
          exact ⟨ret_bool HF.out.symm, HG2.out.more _ _⟩
        | true =>
          rw [hok] at hcall
          by_cases h0 : k = 0
          · subst h0
            have HA2 : Hid (∀ j, j < 0 + 1 → Fine es j) := take_fine HA.out fun h => ⟨by rw [HZ.out]; exact hok, fun h => absurd h (by omega)⟩
            clear hP2 hok HA
            refine qgr (fun nq osq => ?_) (hq := by (repeat (refine hq_step (fun K hK => ?_); go_simp; first | (refine hK _ ?_; clear hK K) | (apply Exists.intro; refine ⟨fun _ => ?_, hK _ ?_⟩; (go_at_call 19; refine Calls.grown_of (hcall _ _)); clear hK K))); exact hq_nil rfl)
            go_wp2_with fail
            go_roundw
            case rel => exact ⟨0 + 1, by omega, by go_num, HG2.out.more _ _, HA2⟩
            case measure => simp [intOf]; omega
          · obtain ⟨q, rfl⟩ : ∃ q, k = q + 1 := ⟨k - 1, by omega⟩
            obtain ⟨p, HP, hCp⟩ := hP2 (by omega)
            replace hCp : Cells w1 g (off + q * 4) p := hCp
            replace HP : Hid (es[q]'(by omega) = p) := HP
            clear hP2
            have hp0 := fun n os => (hCp.grow4 hg2 n os).1
            obtain ⟨pn, pk, pi, pt⟩ := p
            simp only at hp0
            clear hCp
            have hwq : IntKind.i64.wrap (q : Int) = (q : Int) := by rw [IntKind.wrap_i64]; omega
            have hq0 : (0 : Int) ≤ (q : Int) := by omega
            have hq1 : (q : Int) < (n : Int) := by omega
            have hq2 : q < n := by omega
            cases hl : Op.bytesLess pn zn with
            | true =>
              have HA2 : Hid (∀ j, j < q + 1 + 1 → Fine es j) := take_fine HA.out fun h => ⟨by rw [HZ.out]; exact hok, fun _ => by rw [HZ.out]; show lt (es[q]'(by omega)) _; rw [HP.out]; exact hl⟩
              clear hok HA
              refine qgr (fun nq osq => ?_) (hq := by (repeat (refine hq_step (fun K hK => ?_); go_simp; first | (refine hK _ ?_; clear hK K) | (apply Exists.intro; refine ⟨fun _ => ?_, hK _ ?_⟩; (go_at_call 19; refine Calls.grown_of (hcall _ _)); clear hK K))); exact hq_nil rfl)
              go_wp2_with fail
              go_roundw
              case rel => exact ⟨q + 1 + 1, by omega, by go_num, HG2.out.more _ _, HA2⟩
              case measure => simp [intOf]; omega
            | false =>
              have HF : Hid (decide (Right es) = false) := right_not (k := q + 1) fun h => by
                have := (h hk').2 (by omega)
                rw [HZ.out] at this
                replace this : lt (es[q]'(by omega)) ⟨zn, zk, zi, zt⟩ := this
                rw [HP.out] at this
                unfold lt at this
                rw [hl] at this; cases this
              clear hok HA
              refine qgr (fun nq osq => ?_) (hq := by (repeat (refine hq_step (fun K hK => ?_); go_simp; first | (refine hK _ ?_; clear hK K) | (apply Exists.intro; refine ⟨fun _ => ?_, hK _ ?_⟩; (go_at_call 19; refine Calls.grown_of (hcall _ _)); clear hK K))); exact hq_nil rfl)
              go_wp2_with fail
              go_ret
              exact ⟨ret_bool HF.out.symm, HG2.out.more _ _⟩
      · have HF : Hid (decide (Right es) = true) := right_yes (by rw [HN.out]; exact h24) (fun j hj => HA.out j (by rw [HN.out] at hj; omega))
        go_wp2_with fail
        go_ret
        exact ⟨ret_bool HF.out.symm, HG.out⟩
  · have HF : Hid (decide (Right es) = false) := right_no (by rw [HN.out]; omega)
    have q24 : decide ((24 : Int) < (n : Int)) = true := by simp; omega
    go_enter Try.func14, Try.ntmps14
    go_wp2_with fail
    go_ret
    exact ⟨ret_bool HF.out.symm, Grown.refl _⟩
end Go.Proofs.Ytnfigjggjmncdaa
