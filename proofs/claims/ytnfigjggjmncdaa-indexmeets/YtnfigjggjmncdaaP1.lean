/- Contracts of the program and of the document (WMath, VMath, PMath, SMath, SPreds, STell, EMath, Mem, VRight, VBox, PRight, Grow, Quiet, Row, SRow, VText, WSize, WLay, WNum, WScan, WRead, VCmp), each used further on. -/
import Derived.Lib.BitFns
import Derived.Laws.Strings
import Derived.Test.YtnfigjggjmncdaaRows
import Derived.WalkKit
import Derived.WalkSpells
import Derived.WalkLawsBesides
import Derived.Lib.Hide
import Derived.Laws.CopyOwn
import Derived.Laws.BytesArg
import Derived.Maps.AppendAt
import Derived.Deep.RegionHeld3
import Derived.OpenShut
import Derived.ProofKit
import Derived.SizedLaws
import Derived.Laws.IdiomStrings
import Derived.Deep.QuietTactic
import Derived.BigQuiet
import Derived.Laws.StructEq
import Derived.Laws.Strings2
import Derived.Shelf.SlSortCmp.QuietGrown
import Derived.Deep.Slices
import Derived.Deep.Strs
import Derived.ChangeSlices
import Derived.Lib.SmallJoins
import Derived.Laws.CopyRow
import Derived.Laws.OwnMore
import Derived.Lib.Zigzag
import Derived.Lib.AppendStr
namespace Wire
/-- A number's bytes: seven bits a byte, the lowest first. -/
def put (n : Nat) : List UInt8 := if n < 128 then [UInt8.ofNat n] else UInt8.ofNat (n % 128 + 128) :: put (n / 128)
termination_by n
/-- May a byte be a number's last one, at that place? -/
def mayEnd (x p : Nat) : Bool := if p = 9 then x == 1 else (x != 0 || p == 0)
/-- What is read, from a place on: the number, behind which byte, the error. -/
def scan : Nat → Nat → Nat → List UInt8 → Nat × Nat × Nat
  | 0, _, _, _ => (0, 0, 3)
  | _ + 1, _, _, [] => (0, 0, 2)
  | f + 1, p, acc, x :: r =>
    if 128 ≤ x.toNat then scan f (p + 1) (acc + x.toNat % 128 * 128 ^ p) r
    else if mayEnd x.toNat p then (acc + x.toNat * 128 ^ p, p + 1, 0) else (0, 0, 3)
def num (bs : List UInt8) : Nat × Nat × Nat := scan 10 0 0 bs
/-- The number that stands for an int. -/
def zig (n : Int) : Nat := if n < 0 then 2 * (-1 - n).toNat + 1 else 2 * n.toNat
/-- The int that a number stands for. -/
def zag (n : Nat) : Int := if n % 2 = 1 then -1 - ((n / 2 : Nat) : Int) else ((n / 2 : Nat) : Int)
/-- A text's bytes. -/
def text (s : List UInt8) : List UInt8 := put s.length ++ s
/-- A scan: what is left, and the error. -/
structure St where
  rest : List UInt8
  err : Int
def St.fail (s : St) (e : Int) : St := if s.err = 0 ∧ e ≠ 0 then ⟨[], e⟩ else s
/-- May a scan be so? Behind an error nothing is left. -/
def St.fine (s : St) : Prop := s.err ≠ 0 → s.rest = []
def St.numS (s : St) : St := if (num s.rest).2.2 = 0 then ⟨s.rest.drop (num s.rest).2.1, s.err⟩ else s.fail (num s.rest).2.2
def St.numV (s : St) : Nat := (num s.rest).1
/-- Is what Upto reads above what it may be? -/
def St.over (s : St) (most : Int) : Bool := most < 0 || most < (s.numV : Int)
def St.uptoS (s : St) (most : Int) : St := if s.over most then s.numS.fail 4 else s.numS
def St.uptoV (s : St) (most : Int) : Nat := if s.over most then 0 else s.numV
def St.textS (s : St) (most : Int) : St :=
  if (s.uptoS most).rest.length < s.uptoV most then (s.uptoS most).fail 2 else ⟨(s.uptoS most).rest.drop (s.uptoV most), (s.uptoS most).err⟩
def St.textV (s : St) (most : Int) : List UInt8 :=
  if (s.uptoS most).rest.length < s.uptoV most then [] else (s.uptoS most).rest.take (s.uptoV most)
def St.endE (s : St) : Int := if s.err = 0 ∧ 0 < s.rest.length then 5 else s.err
end Wire
namespace Vals
open Wire
open Go.Op (bytesLess)
def cmpI (a b : Int) : Int := if a < b then -1 else if b < a then 1 else 0
def cmpT (a b : List UInt8) : Int := if bytesLess a b then -1 else if a = b then 0 else 1
def cmp (k i : Int) (t : List UInt8) (k' i' : Int) (t' : List UInt8) : Int :=
  if cmpI k k' ≠ 0 then cmpI k k' else if cmpI i i' ≠ 0 then cmpI i i' else cmpT t t'
def right (k i : Int) (t : List UInt8) : Bool :=
  if k = 1 then t.length == 0 else if k = 2 then i == 0 && decide (t.length ≤ 64) else if k = 3 then t.length == 0 && decide (0 ≤ i) && decide (i ≤ 1) else false
def bytes (k i : Int) (t : List UInt8) : List UInt8 :=
  put k.toNat ++ (if k = 1 then put (zig i) else if k = 2 then text t else put i.toNat)
def lay (k i : Int) (t : List UInt8) : List UInt8 := if right k i t then bytes k i t else []
def getS (s : St) : St :=
  if s.uptoV 3 = 1 then (s.uptoS 3).numS else if s.uptoV 3 = 2 then (s.uptoS 3).textS 64 else if s.uptoV 3 = 3 then (s.uptoS 3).uptoS 1 else (s.uptoS 3).fail 3
def getK (s : St) : Int := if (getS s).err = 0 then (s.uptoV 3 : Int) else 0
def getI (s : St) : Int := if (getS s).err = 0 then (if s.uptoV 3 = 1 then zag (s.uptoS 3).numV else if s.uptoV 3 = 3 then ((s.uptoS 3).uptoV 1 : Int) else 0) else 0
def getT (s : St) : List UInt8 := if (getS s).err = 0 then (if s.uptoV 3 = 2 then (s.uptoS 3).textV 64 else []) else []
theorem less_irr : ∀ a : List UInt8, bytesLess a a = false
  | [] => rfl
  | x :: a => by simp [bytesLess, less_irr a]
theorem less_asym : ∀ a b : List UInt8, bytesLess a b = true → bytesLess b a = false
  | _, [] => by simp [bytesLess]
  | [], _ :: _ => by simp [bytesLess]
  | x :: a, y :: b => by
    simp only [bytesLess, Bool.or_eq_true, decide_eq_true_eq, Bool.and_eq_true, beq_iff_eq, Bool.or_eq_false_iff, decide_eq_false_iff_not, Bool.and_eq_false_iff]
    rintro (h | ⟨h, k⟩)
    · have : ¬ y < x := by rw [UInt8.lt_iff_toNat_lt] at *; omega
      refine ⟨this, .inl ?_⟩
      rw [beq_eq_false_iff_ne]; rintro rfl; rw [UInt8.lt_iff_toNat_lt] at h; omega
    · subst h
      refine ⟨by rw [UInt8.lt_iff_toNat_lt]; omega, .inr (less_asym a b k)⟩
theorem less_tri : ∀ a b : List UInt8, bytesLess a b = false → bytesLess b a = false → a = b
  | [], [] => by simp
  | _ :: _, [] => by simp [bytesLess]
  | [], _ :: _ => by simp [bytesLess]
  | x :: a, y :: b => by
    simp only [bytesLess, Bool.or_eq_false_iff, decide_eq_false_iff_not, Bool.and_eq_false_iff]
    rintro ⟨h1, h2⟩ ⟨h3, h4⟩
    have e : x = y := by rw [UInt8.lt_iff_toNat_lt] at *; exact UInt8.toNat_inj.1 (by omega)
    subst e
    rcases h2 with h2 | h2
    · simp at h2
    · rcases h4 with h4 | h4
      · simp at h4
      · rw [less_tri a b h2 h4]
theorem less_trans : ∀ a b c : List UInt8, bytesLess a b = true → bytesLess b c = true → bytesLess a c = true
  | _, [], _ => by simp [bytesLess]
  | _, _ :: _, [] => by simp [bytesLess]
  | [], _ :: _, _ :: _ => by simp [bytesLess]
  | x :: a, y :: b, z :: c => by
    simp only [bytesLess, Bool.or_eq_true, decide_eq_true_eq, Bool.and_eq_true, beq_iff_eq]
    rintro (h | ⟨h, k⟩) (h' | ⟨h', k'⟩)
    · left; rw [UInt8.lt_iff_toNat_lt] at *; omega
    · subst h'; exact .inl h
    · subst h; exact .inl h'
    · subst h; subst h'; exact .inr ⟨rfl, less_trans a b c k k'⟩
theorem cmpI_zero (a b : Int) : cmpI a b = 0 ↔ a = b := by unfold cmpI; split <;> (try split) <;> omega
theorem cmpT_zero (a b : List UInt8) : cmpT a b = 0 ↔ a = b := by
  unfold cmpT
  constructor
  · split
    · intro h; omega
    · split
      · intro _; assumption
      · intro h; omega
  · rintro rfl; rw [less_irr]; simp
theorem cmpT_le (a b : List UInt8) : cmpT a b ≤ 0 ↔ bytesLess b a = false := by
  unfold cmpT
  split
  · rename_i h
    constructor
    · intro _; exact less_asym _ _ h
    · intro _; omega
  · rename_i h
    split
    · rename_i h'
      subst h'
      simp [less_irr]
    · rename_i h'
      constructor
      · intro h; omega
      · intro h2; exact absurd (less_tri _ _ (by simpa using h) h2) h'
theorem cmpT_neg (a b : List UInt8) : cmpT b a = - cmpT a b := by
  by_cases e : a = b
  · subst e
    rw [(cmpT_zero a a).2 rfl]; rfl
  · have e' : ¬ b = a := fun h => e h.symm
    unfold cmpT
    cases h1 : bytesLess a b <;> cases h2 : bytesLess b a
    · exact absurd (less_tri _ _ h1 h2) e
    · simp [e]
    · simp [e']
    · rw [less_asym _ _ h1] at h2; simp at h2
/-! What was laid is read as it was. -/
theorem right_cases {k i : Int} {t : List UInt8} (h : right k i t = true) : (k = 1 ∧ t = []) ∨ (k = 2 ∧ i = 0 ∧ t.length ≤ 64) ∨ (k = 3 ∧ t = [] ∧ (i = 0 ∨ i = 1)) := by
  unfold right at h
  by_cases h1 : k = 1
  · rw [if_pos h1] at h
    exact .inl ⟨h1, by simpa using h⟩
  · rw [if_neg h1] at h
    by_cases h2 : k = 2
    · rw [if_pos h2] at h
      simp only [Bool.and_eq_true, beq_iff_eq, decide_eq_true_eq] at h
      exact .inr (.inl ⟨h2, h.1, h.2⟩)
    · rw [if_neg h2] at h
      by_cases h3 : k = 3
      · rw [if_pos h3] at h
        simp only [Bool.and_eq_true, beq_iff_eq, decide_eq_true_eq, List.length_eq_zero_iff] at h
        exact .inr (.inr ⟨h3, h.1.1, by omega⟩)
      · rw [if_neg h3] at h; simp at h
/-! What is read was laid just so, and is right. -/
end Vals
namespace Preds
open Wire
def side (k i : Int) (t : List UInt8) : Bool := Vals.right k i t && decide (t.length ≤ 32)
/-- What an Op asks of a value against which attributes are held. -/
def asks (o k i : Int) (t : List UInt8) : Bool :=
  if o = 8 then decide (k = 0 ∧ i = 0 ∧ t = []) else if o = 7 then side k i t && decide (k = 2) else decide (1 ≤ o) && decide (o ≤ 6) && side k i t
def right (n : List UInt8) (o k i : Int) (t : List UInt8) : Bool := decide (1 ≤ n.length) && decide (n.length ≤ 16) && asks o k i t
def allows (o c : Int) : Bool :=
  if o = 1 then c == 0 else if o = 2 then c != 0 else if o = 3 then decide (c < 0) else if o = 4 then decide (c ≤ 0) else if o = 5 then decide (0 < c) else if o = 6 then decide (0 ≤ c) else false
def begins (t p : List UInt8) : Bool := decide (p.length ≤ t.length) && decide (t.take p.length = p)
/-- Of a right predicate and a right value. -/
def met (o k i : Int) (t : List UInt8) (k' i' : Int) (t' : List UInt8) : Bool :=
  if o = 8 then true else decide (k' = k) && (if o = 7 then begins t' t else allows o (Vals.cmp k' i' t' k i t))
def holds (n : List UInt8) (o k i : Int) (t : List UInt8) (k' i' : Int) (t' : List UInt8) : Bool := right n o k i t && Vals.right k' i' t' && met o k i t k' i' t'
def bytes (n : List UInt8) (o k i : Int) (t : List UInt8) : List UInt8 := text n ++ (put o.toNat ++ (if o = 8 then [] else Vals.lay k i t))
def lay (n : List UInt8) (o k i : Int) (t : List UInt8) : List UInt8 := if right n o k i t then bytes n o k i t else []
def nameS (s : St) : St := if s.textV 16 = [] then (s.textS 16).fail 3 else s.textS 16
def opS (s : St) : St := if s.uptoV 8 = 0 then (s.uptoS 8).fail 3 else s.uptoS 8
def wrong (o k : Int) (t : List UInt8) : Bool := (decide (o = 7) && decide (k ≠ 2)) || decide (32 < t.length)
def sideS (s : St) (o : Int) : St := if wrong o (Vals.getK s) (Vals.getT s) then (Vals.getS s).fail 3 else Vals.getS s
def rawO (s : St) : Nat := (nameS s).uptoV 8
def behind (s : St) : St := opS (nameS s)
def getS (s : St) : St := if rawO s = 8 then behind s else sideS (behind s) (rawO s : Int)
def rawK (s : St) : Int := if rawO s = 8 then 0 else Vals.getK (behind s)
def rawI (s : St) : Int := if rawO s = 8 then 0 else Vals.getI (behind s)
def rawT (s : St) : List UInt8 := if rawO s = 8 then [] else Vals.getT (behind s)
def getN (s : St) : List UInt8 := if (getS s).err = 0 then s.textV 16 else []
def getO (s : St) : Int := if (getS s).err = 0 then (rawO s : Int) else 0
def getK (s : St) : Int := if (getS s).err = 0 then rawK s else 0
def getI (s : St) : Int := if (getS s).err = 0 then rawI s else 0
def getT (s : St) : List UInt8 := if (getS s).err = 0 then rawT s else []
/-! Errors stay. -/
/-! What was laid is read as it was. -/
theorem right_parts {n : List UInt8} {o k i : Int} {t : List UInt8} (h : right n o k i t = true) : 1 ≤ n.length ∧ n.length ≤ 16 ∧ asks o k i t = true := by
  unfold right at h
  simp only [Bool.and_eq_true, decide_eq_true_eq] at h
  exact ⟨h.1.1, h.1.2, h.2⟩
/-- OpExists, or a value of at most thirty-two bytes. -/
theorem asks_cases {o k i : Int} {t : List UInt8} (h : asks o k i t = true) : (o = 8 ∧ k = 0 ∧ i = 0 ∧ t = []) ∨ (o ≠ 8 ∧ 1 ≤ o ∧ o ≤ 7 ∧ Vals.right k i t = true ∧ t.length ≤ 32 ∧ (o = 7 → k = 2)) := by
  unfold asks at h
  by_cases h8 : o = 8
  · rw [if_pos h8] at h
    simp only [decide_eq_true_eq] at h
    exact .inl ⟨h8, h⟩
  · rw [if_neg h8] at h
    right
    by_cases h7 : o = 7
    · rw [if_pos h7] at h
      simp only [side, Bool.and_eq_true, decide_eq_true_eq] at h
      exact ⟨h8, by omega, by omega, h.1.1, h.1.2, fun _ => h.2⟩
    · rw [if_neg h7] at h
      simp only [side, Bool.and_eq_true, decide_eq_true_eq] at h
      exact ⟨h8, h.1.1, by omega, h.2.1, h.2.2, fun e => absurd e h7⟩
theorem asks_of {o k i : Int} {t : List UInt8} (h8 : o ≠ 8) (h1 : 1 ≤ o) (h2 : o ≤ 7) (hr : Vals.right k i t = true) (ht : t.length ≤ 32) (h7 : o = 7 → k = 2) : asks o k i t = true := by
  unfold asks side
  rw [if_neg h8, hr]
  by_cases e : o = 7
  · rw [if_pos e, h7 e]; simpa using ht
  · rw [if_neg e]
    simp only [Bool.true_and, Bool.and_eq_true, decide_eq_true_eq]
    exact ⟨⟨h1, by omega⟩, ht⟩
/-! What is read was laid just so, and is right. -/
end Preds
namespace Spans
open Go.Op (bytesLess)
/-- A value: its kind, its int, its text. -/
structure Val where
  k : Int
  i : Int
  t : List UInt8
instance : Inhabited Val := ⟨⟨0, 0, []⟩⟩
instance : DecidableEq Val := fun a b => decidable_of_iff (a.k = b.k ∧ a.i = b.i ∧ a.t = b.t) (by cases a; cases b; simp)
theorem Val.ext_ {a b : Val} (h1 : a.k = b.k) (h2 : a.i = b.i) (h3 : a.t = b.t) : a = b := by cases a; cases b; simp_all
/-- Is a value right, with an int of 64 bits? -/
def rightV (v : Val) : Bool := Vals.right v.k v.i v.t && (decide (-9223372036854775808 ≤ v.i) && decide (v.i ≤ 9223372036854775807))
theorem rightV_iff (v : Val) : rightV v = true ↔ Vals.right v.k v.i v.t = true ∧ -9223372036854775808 ≤ v.i ∧ v.i ≤ 9223372036854775807 := by unfold rightV; simp
/-- A span: its kind, ints from lo to hi, texts from frm on, ahead of to_ (without an end, if opn), but those in no. -/
structure Sp where
  kind : Int
  lo : Int
  hi : Int
  frm : List UInt8
  to_ : List UInt8
  opn : Bool
  no : List Val
def none_ : Sp := ⟨0, 0, 0, [], [], false, []⟩
def any_ : Sp := ⟨4, 0, 0, [], [], false, []⟩
/-! Texts. -/
theorem lt_snoc : ∀ u : List UInt8, bytesLess u (u ++ [0]) = true
  | [] => rfl
  | x :: u => by simp [bytesLess, lt_snoc u]
/-- Behind a text comes the text with a byte 0 more. -/
theorem next_le : ∀ u t : List UInt8, bytesLess u t = true → bytesLess t (u ++ [0]) = false
  | _, [], h => by cases ‹List UInt8› <;> simp [bytesLess] at h
  | [], y :: t, _ => by
    simp only [List.nil_append, bytesLess, Bool.or_eq_false_iff, decide_eq_false_iff_not, Bool.and_eq_false_iff]
    refine ⟨by rw [UInt8.lt_iff_toNat_lt]; simp, .inr ?_⟩
    cases t <;> first | rfl | trivial
  | x :: u, y :: t, h => by
    simp only [bytesLess, Bool.or_eq_true, decide_eq_true_eq, Bool.and_eq_true, beq_iff_eq] at h
    simp only [List.cons_append, bytesLess, Bool.or_eq_false_iff, decide_eq_false_iff_not, Bool.and_eq_false_iff]
    rcases h with h | ⟨rfl, h⟩
    · refine ⟨by rw [UInt8.lt_iff_toNat_lt] at *; omega, .inl ?_⟩
      rw [beq_eq_false_iff_ne]; rintro rfl; rw [UInt8.lt_iff_toNat_lt] at h; omega
    · exact ⟨by rw [UInt8.lt_iff_toNat_lt]; omega, .inr (next_le u t h)⟩
theorem less_or (a b : List UInt8) : bytesLess a b = true ∨ a = b ∨ bytesLess b a = true := by
  cases h1 : bytesLess a b with
  | true => exact .inl rfl
  | false =>
    cases h2 : bytesLess b a with
    | true => exact .inr (.inr rfl)
    | false => exact .inr (.inl (Vals.less_tri a b h1 h2))
theorem le_trans {a b c : List UInt8} (h1 : bytesLess b a = false) (h2 : bytesLess c b = false) : bytesLess c a = false := by
  cases h : bytesLess c a with
  | false => rfl
  | true =>
    rcases less_or a b with h3 | rfl | h3
    · rw [Vals.less_trans _ _ _ h h3] at h2; simp at h2
    · rw [h] at h2; simp at h2
    · rw [h3] at h1; simp at h1
theorem lt_of_lt_of_le {a b c : List UInt8} (h1 : bytesLess a b = true) (h2 : bytesLess c b = false) : bytesLess a c = true := by
  rcases less_or a c with h | rfl | h
  · exact h
  · rw [h1] at h2; simp at h2
  · rw [Vals.less_trans _ _ _ h h1] at h2; simp at h2
theorem lt_of_le_of_lt {a b c : List UInt8} (h1 : bytesLess b a = false) (h2 : bytesLess b c = true) : bytesLess a c = true := by
  rcases less_or a b with h | rfl | h
  · exact Vals.less_trans _ _ _ h h2
  · exact h2
  · rw [h] at h1; simp at h1
theorem le_of_lt {a b : List UInt8} (h : bytesLess a b = true) : bytesLess b a = false := Vals.less_asym _ _ h
/-- A text with some bytes 0 more. -/
def zs (u : List UInt8) (j : Nat) : List UInt8 := u ++ List.replicate j 0
theorem zs_zero (u : List UInt8) : zs u 0 = u := by simp [zs]
theorem zs_succ (u : List UInt8) (j : Nat) : zs u (j + 1) = zs u j ++ [0] := by
  unfold zs
  rw [List.replicate_succ', List.append_assoc]
theorem zs_len (u : List UInt8) (j : Nat) : (zs u j).length = u.length + j := by simp [zs]
theorem zs_le (u : List UInt8) : ∀ j, bytesLess (zs u j) u = false
  | 0 => by rw [zs_zero, Vals.less_irr]
  | j + 1 => by rw [zs_succ]; exact le_trans (zs_le u j) (le_of_lt (lt_snoc _))
/-- Of a text ahead of an end: with some bytes 0 more it is the end, or it stays ahead, however many these are. -/
theorem zs_reach (u e : List UInt8) (h : bytesLess u e = true) : ∀ j, bytesLess (zs u j) e = true ∨ ∃ k, 1 ≤ k ∧ k ≤ j ∧ e = zs u k
  | 0 => by rw [zs_zero]; exact .inl h
  | j + 1 => by
    rcases zs_reach u e h j with h1 | ⟨k, h1, h2, h3⟩
    · rcases less_or (zs u (j + 1)) e with h2 | h2 | h2
      · exact .inl h2
      · exact .inr ⟨j + 1, by omega, by omega, h2.symm⟩
      · rw [zs_succ] at h2
        rw [next_le _ _ h1] at h2; simp at h2
    · exact .inr ⟨k, h1, by omega, h3⟩
/-! What is in a span. -/
def inT (frm to_ : List UInt8) (opn : Bool) (t : List UInt8) : Bool := !bytesLess t frm && (opn || bytesLess t to_)
def inN (lo hi i : Int) : Bool := decide (lo ≤ i) && decide (i ≤ hi)
def has (a : Sp) (v : Val) : Bool :=
  if a.kind = 0 then false else if a.kind = 4 then rightV v
  else rightV v && decide (v.k = a.kind) && !decide (v ∈ a.no) && (if a.kind = 2 then inT a.frm a.to_ a.opn v.t else inN a.lo a.hi v.i)
def lowest (k : Int) : Int := if k = 1 then -9223372036854775808 else 0
def highest (k : Int) : Int := if k = 1 then 9223372036854775807 else 1
/-- The one form of a set of ints, or bools. -/
structure CanonN (a : Sp) : Prop where
  kind : a.kind = 1 ∨ a.kind = 3
  frm : a.frm = []
  to_ : a.to_ = []
  opn : a.opn = false
  low : lowest a.kind ≤ a.lo
  ord : a.lo ≤ a.hi
  high : a.hi ≤ highest a.kind
  no : ∀ v ∈ a.no, v.k = a.kind ∧ v.t = [] ∧ a.lo < v.i ∧ v.i < a.hi
  rise : a.no.Pairwise fun u v => u.i < v.i
/-- A text of at most thirty-two bytes, or with a byte 0 more. -/
def Short (s : List UInt8) : Prop := s.length ≤ 32 ∨ ∃ u, s = u ++ [0] ∧ u.length ≤ 32
theorem Short.len {s : List UInt8} (h : Short s) : s.length ≤ 33 := by
  rcases h with h | ⟨u, rfl, h⟩
  · omega
  · simp; omega
/-- The one form of a set of texts. -/
structure CanonT (a : Sp) : Prop where
  kind : a.kind = 2
  lo : a.lo = 0
  hi : a.hi = 0
  flen : Short a.frm
  no : ∀ v ∈ a.no, v.k = 2 ∧ v.i = 0 ∧ v.t.length ≤ 32 ∧ bytesLess a.frm v.t = true ∧ (a.opn = false → bytesLess v.t a.to_ = true)
  rise : a.no.Pairwise fun u v => bytesLess u.t v.t = true
  isOpn : a.opn = true → a.to_ = []
  shut : a.opn = false → Short a.to_ ∧ bytesLess a.frm a.to_ = true ∧ ∀ u, a.to_ = u ++ [0] → (⟨2, 0, u⟩ : Val) ∉ a.no
/-- The one form of a set. -/
def Canon (a : Sp) : Prop := a = none_ ∨ a = any_ ∨ CanonN a ∨ CanonT a
theorem right_text (t : List UInt8) (h : t.length ≤ 64) : rightV ⟨2, 0, t⟩ = true := by rw [rightV_iff]; unfold Vals.right; simp [h]
theorem right_num {k i : Int} (hk : k = 1 ∨ k = 3) (h1 : lowest k ≤ i) (h2 : i ≤ highest k) : rightV ⟨k, i, []⟩ = true := by
  rw [rightV_iff]
  unfold Vals.right
  rcases hk with rfl | rfl
  · simp [lowest, highest] at h1 h2 ⊢; omega
  · simp [lowest, highest] at h1 h2 ⊢; omega
theorem has_N {a : Sp} (h : CanonN a) (v : Val) : has a v = (rightV v && decide (v.k = a.kind) && !decide (v ∈ a.no) && inN a.lo a.hi v.i) := by
  unfold has
  rcases h.kind with hk | hk <;> simp [hk]
theorem has_T {a : Sp} (h : CanonT a) (v : Val) : has a v = (rightV v && decide (v.k = 2) && !decide (v ∈ a.no) && inT a.frm a.to_ a.opn v.t) := by
  unfold has
  simp [h.kind]
theorem has_none (v : Val) : has none_ v = false := rfl
theorem has_any (v : Val) : has any_ v = rightV v := rfl
theorem N_iff {a : Sp} (h : CanonN a) (v : Val) : has a v = true ↔ rightV v = true ∧ v.k = a.kind ∧ v ∉ a.no ∧ a.lo ≤ v.i ∧ v.i ≤ a.hi := by
  rw [has_N h]
  simp [inN, and_assoc]
theorem T_iff {a : Sp} (h : CanonT a) (v : Val) : has a v = true ↔ rightV v = true ∧ v.k = 2 ∧ v ∉ a.no ∧ bytesLess v.t a.frm = false ∧ (a.opn = true ∨ bytesLess v.t a.to_ = true) := by
  rw [has_T h]
  simp [inT, and_assoc]
theorem has_right {a : Sp} {v : Val} (h : has a v = true) : rightV v = true := by
  unfold has at h
  split at h
  · simp at h
  · split at h
    · exact h
    · simp only [Bool.and_eq_true] at h
      exact h.1.1.1
theorem has_kind {a : Sp} {v : Val} (h : has a v = true) : a.kind = 4 ∨ v.k = a.kind := by
  unfold has at h
  split at h
  · simp at h
  · split at h
    · exact .inl (by assumption)
    · simp only [Bool.and_eq_true, decide_eq_true_eq] at h
      exact .inr h.1.1.2
theorem has_lo {a : Sp} (h : CanonN a) : has a ⟨a.kind, a.lo, []⟩ = true := by
  rw [N_iff h]
  have h1 := h.low
  have h2 := h.ord
  have h3 := h.high
  exact ⟨right_num h.kind h1 (by omega), rfl, fun hm => by have := (h.no _ hm).2.2.1; simp at this, Int.le_refl _, h2⟩
theorem has_hi {a : Sp} (h : CanonN a) : has a ⟨a.kind, a.hi, []⟩ = true := by
  rw [N_iff h]
  have h1 := h.low
  have h2 := h.ord
  have h3 := h.high
  exact ⟨right_num h.kind (by omega) h3, rfl, fun hm => by have := (h.no _ hm).2.2.2; simp at this, h2, Int.le_refl _⟩
theorem has_frm {a : Sp} (h : CanonT a) : has a ⟨2, 0, a.frm⟩ = true := by
  rw [T_iff h]
  have h1 := h.flen.len
  refine ⟨right_text _ (by omega), rfl, fun hm => ?_, Vals.less_irr _, ?_⟩
  · have := (h.no _ hm).2.2.2.1
    rw [Vals.less_irr] at this; simp at this
  · cases ho : a.opn with
    | true => exact .inl rfl
    | false => exact .inr (h.shut ho).2.1
/-- Wherever there is room for texts, there is one, with some bytes 0 more. -/
theorem has_far {a : Sp} (h : CanonT a) (x : List UInt8) (hx : x.length ≤ 33) (h1 : bytesLess x a.frm = false) (h2 : a.opn = true ∨ bytesLess x a.to_ = true) :
    ∃ j, x.length + j ≤ 33 ∧ has a ⟨2, 0, zs x j⟩ = true := by
  have hlong : (⟨2, 0, zs x (33 - x.length)⟩ : Val) ∉ a.no := fun hm => by
    have := (h.no _ hm).2.2.1
    rw [show (Val.mk 2 0 (zs x (33 - x.length))).t = zs x (33 - x.length) from rfl, zs_len] at this
    omega
  have hfr : ∀ j, bytesLess (zs x j) a.frm = false := fun j => le_trans h1 (zs_le x j)
  cases ho : a.opn with
  | true =>
    refine ⟨33 - x.length, by omega, ?_⟩
    rw [T_iff h]
    exact ⟨right_text _ (by rw [zs_len]; omega), rfl, hlong, hfr _, .inl ho⟩
  | false =>
    have h2' : bytesLess x a.to_ = true := by rcases h2 with h2 | h2; rw [ho] at h2; simp at h2; exact h2
    rcases zs_reach x a.to_ h2' (33 - x.length) with h3 | ⟨k, k1, k2, k3⟩
    · refine ⟨33 - x.length, by omega, ?_⟩
      rw [T_iff h]
      exact ⟨right_text _ (by rw [zs_len]; omega), rfl, hlong, hfr _, .inr h3⟩
    · have e : a.to_ = zs x (k - 1) ++ [0] := by rw [← zs_succ, k3]; congr 1; omega
      refine ⟨k - 1, by omega, ?_⟩
      rw [T_iff h]
      refine ⟨right_text _ (by rw [zs_len]; omega), rfl, (h.shut ho).2.2 _ e, hfr _, .inr ?_⟩
      show bytesLess (zs x (k - 1)) a.to_ = true
      rw [e]; exact lt_snoc _
/-! Each set has one form. -/
theorem rise_ext {A : Type} {r : A → A → Prop} (asym : ∀ x y, r x y → ¬ r y x) : ∀ (l m : List A), l.Pairwise r → m.Pairwise r → (∀ x, x ∈ l ↔ x ∈ m) → l = m
  | [], [], _, _, _ => rfl
  | [], y :: m, _, _, h => by have := (h y).2 (by simp); simp at this
  | x :: l, [], _, _, h => by have := (h x).1 (by simp); simp at this
  | x :: l, y :: m, hl, hm, h => by
    have hl' := List.pairwise_cons.1 hl
    have hm' := List.pairwise_cons.1 hm
    have e : x = y := by
      rcases List.mem_cons.1 ((h x).1 (by simp)) with e | hx
      · exact e
      · rcases List.mem_cons.1 ((h y).2 (by simp)) with e | hy
        · exact e.symm
        · exact absurd (hl'.1 y hy) (asym _ _ (hm'.1 x hx))
    subst e
    rw [rise_ext asym l m hl'.2 hm'.2 (fun z => ?_)]
    constructor
    · intro hz
      rcases List.mem_cons.1 ((h z).1 (List.mem_cons_of_mem _ hz)) with rfl | hz'
      · exact absurd (hl'.1 _ hz) (fun k => asym _ _ k k)
      · exact hz'
    · intro hz
      rcases List.mem_cons.1 ((h z).2 (List.mem_cons_of_mem _ hz)) with rfl | hz'
      · exact absurd (hm'.1 _ hz) (fun k => asym _ _ k k)
      · exact hz'
theorem Sp.ext_ {a b : Sp} (h1 : a.kind = b.kind) (h2 : a.lo = b.lo) (h3 : a.hi = b.hi) (h4 : a.frm = b.frm) (h5 : a.to_ = b.to_) (h6 : a.opn = b.opn) (h7 : a.no = b.no) : a = b := by cases a; cases b; simp_all
theorem N_not4 {a : Sp} (h : CanonN a) : a.kind ≠ 4 ∧ a.kind ≠ 2 ∧ a.kind ≠ 0 := by rcases h.kind with hk | hk <;> rw [hk] <;> decide
theorem T_not4 {a : Sp} (h : CanonT a) : a.kind ≠ 4 ∧ a.kind ≠ 0 := by rw [h.kind]; decide
theorem sub_N {a b : Sp} (ha : CanonN a) (hb : CanonN b) (h : ∀ v, has a v = true → has b v = true) : a.kind = b.kind ∧ b.lo ≤ a.lo ∧ a.hi ≤ b.hi := by
  have h1 := h _ (has_lo ha)
  have h2 := h _ (has_hi ha)
  have hk : a.kind = b.kind := by
    rcases has_kind h1 with e | e
    · exact absurd e (N_not4 hb).1
    · exact e
  rw [N_iff hb] at h1 h2
  exact ⟨hk, h1.2.2.2.1, h2.2.2.2.2⟩
theorem one_N {a b : Sp} (ha : CanonN a) (hb : CanonN b) (h : ∀ v, has a v = has b v) : a = b := by
  obtain ⟨hk, l1, l2⟩ := sub_N ha hb (fun v hv => by rw [← h]; exact hv)
  obtain ⟨_, l3, l4⟩ := sub_N hb ha (fun v hv => by rw [h]; exact hv)
  have e1 : a.lo = b.lo := by omega
  have e2 : a.hi = b.hi := by omega
  refine Sp.ext_ hk e1 e2 (ha.frm.trans hb.frm.symm) (ha.to_.trans hb.to_.symm) (ha.opn.trans hb.opn.symm) ?_
  have half : ∀ {a b : Sp}, CanonN a → CanonN b → (∀ v, has a v = has b v) → a.kind = b.kind → a.lo = b.lo → a.hi = b.hi → ∀ v, v ∈ a.no → v ∈ b.no := by
    intro a b ha hb h hk e1 e2 v hv
    obtain ⟨n1, n2, n3, n4⟩ := ha.no v hv
    by_cases hb' : v ∈ b.no
    · exact hb'
    · exfalso
      have hr : rightV v = true := by
        have e : v = ⟨a.kind, v.i, []⟩ := Val.ext_ n1 rfl n2
        rw [e]
        have := ha.low
        have := ha.high
        exact right_num ha.kind (by show _ ≤ v.i; omega) (by show v.i ≤ _; omega)
      have : has b v = true := (N_iff hb v).2 ⟨hr, n1.trans hk, hb', by omega, by omega⟩
      rw [← h, N_iff ha] at this
      exact this.2.2.1 hv
  exact rise_ext (fun x y h1 h2 => by omega) _ _ ha.rise hb.rise (fun v => ⟨half ha hb h hk e1 e2 v, half hb ha (fun v => (h v).symm) hk.symm e1.symm e2.symm v⟩)
/-- Texts' ends: what is in another set has no greater one. -/
theorem sub_T {a b : Sp} (ha : CanonT a) (hb : CanonT b) (h : ∀ v, has a v = true → has b v = true) :
    bytesLess a.frm b.frm = false ∧ (b.opn = true ∨ (a.opn = false ∧ bytesLess b.to_ a.to_ = false)) := by
  have h1 := h _ (has_frm ha)
  rw [T_iff hb] at h1
  refine ⟨h1.2.2.2.1, ?_⟩
  cases ho : b.opn with
  | true => exact .inl rfl
  | false =>
    right
    obtain ⟨s1, s2, s3⟩ := hb.shut ho
    have hfr : bytesLess a.frm b.to_ = true := by
      rcases h1.2.2.2.2 with h | h
      · rw [ho] at h; simp at h
      · exact h
    have key : ¬ (a.opn = true ∨ bytesLess b.to_ a.to_ = true) := by
      intro hk
      obtain ⟨j, _, hj⟩ := has_far ha b.to_ s1.len (le_of_lt hfr) hk
      have hj' := h _ hj
      rw [T_iff hb] at hj'
      rcases hj'.2.2.2.2 with h | h
      · rw [ho] at h; simp at h
      · rw [zs_le b.to_ j] at h; simp at h
    refine ⟨by cases hq : a.opn with | true => exact absurd (.inl hq) key | false => rfl, ?_⟩
    cases hq : bytesLess b.to_ a.to_ with
    | true => exact absurd (.inr hq) key
    | false => rfl
theorem one_T {a b : Sp} (ha : CanonT a) (hb : CanonT b) (h : ∀ v, has a v = has b v) : a = b := by
  obtain ⟨l1, l2⟩ := sub_T ha hb (fun v hv => by rw [← h]; exact hv)
  obtain ⟨l3, l4⟩ := sub_T hb ha (fun v hv => by rw [h]; exact hv)
  have e1 : a.frm = b.frm := Vals.less_tri _ _ l1 l3
  have e2 : a.opn = b.opn := by
    rcases l2 with l2 | ⟨l2, _⟩
    · rcases l4 with l4 | ⟨l4, _⟩
      · rw [l2, l4]
      · rw [l2] at l4; simp at l4
    · rcases l4 with l4 | ⟨l4, _⟩
      · rw [l2] at l4; simp at l4
      · rw [l2, l4]
  have e3 : a.to_ = b.to_ := by
    cases ho : a.opn with
    | true => rw [ha.isOpn ho, hb.isOpn (e2.symm.trans ho)]
    | false =>
      have ho' : b.opn = false := e2.symm.trans ho
      rcases l2 with l2 | ⟨_, l2⟩
      · rw [ho'] at l2; simp at l2
      · rcases l4 with l4 | ⟨_, l4⟩
        · rw [ho] at l4; simp at l4
        · exact Vals.less_tri _ _ l4 l2
  refine Sp.ext_ (ha.kind.trans hb.kind.symm) (ha.lo.trans hb.lo.symm) (ha.hi.trans hb.hi.symm) e1 e3 e2 ?_
  have half : ∀ {a b : Sp}, CanonT a → CanonT b → (∀ v, has a v = has b v) → a.frm = b.frm → a.opn = b.opn → a.to_ = b.to_ → ∀ v, v ∈ a.no → v ∈ b.no := by
    intro a b ha hb h e1 e2 e3 v hv
    obtain ⟨n1, n2, n3, n4, n5⟩ := ha.no v hv
    by_cases hb' : v ∈ b.no
    · exact hb'
    · exfalso
      have hr : rightV v = true := by
        have e : v = ⟨2, 0, v.t⟩ := Val.ext_ n1 n2 rfl
        rw [e]
        exact right_text _ (by omega)
      have : has b v = true := (T_iff hb v).2 ⟨hr, n1, hb', by rw [← e1]; exact le_of_lt n4, by
        cases ho : a.opn with
        | true => exact .inl (e2 ▸ ho)
        | false => exact .inr (by rw [← e3]; exact n5 ho)⟩
      rw [← h, T_iff ha] at this
      exact this.2.2.1 hv
  exact rise_ext (fun x y h1 h2 => by rw [Vals.less_asym _ _ h1] at h2; simp at h2) _ _ ha.rise hb.rise (fun v => ⟨half ha hb h e1 e2 e3 v, half hb ha (fun v => (h v).symm) e1.symm e2.symm e3.symm v⟩)
theorem any_kinds (a : Sp) (h4 : a.kind ≠ 4) (h : ∀ v, rightV v = true → has a v = true) : False := by
  have h1 := h ⟨1, 0, []⟩ rfl
  have h2 := h ⟨2, 0, []⟩ rfl
  rcases has_kind h1 with e | e
  · exact h4 e
  · rcases has_kind h2 with e' | e'
    · exact h4 e'
    · rw [← e'] at e; revert e; decide
theorem one {a b : Sp} (ha : Canon a) (hb : Canon b) (h : ∀ v, has a v = has b v) : a = b := by
  rcases ha with rfl | rfl | ha | ha <;> rcases hb with rfl | rfl | hb | hb
  · rfl
  · exact absurd (h ⟨1, 0, []⟩) (by decide)
  · have := has_lo hb; rw [← h, has_none] at this; simp at this
  · have := has_frm hb; rw [← h, has_none] at this; simp at this
  · exact absurd (h ⟨1, 0, []⟩) (by decide)
  · rfl
  · exact (any_kinds b (N_not4 hb).1 (fun v hv => by rw [← h, has_any]; exact hv)).elim
  · exact (any_kinds b (T_not4 hb).1 (fun v hv => by rw [← h, has_any]; exact hv)).elim
  · have := has_lo ha; rw [h, has_none] at this; simp at this
  · exact (any_kinds a (N_not4 ha).1 (fun v hv => by rw [h, has_any]; exact hv)).elim
  · exact one_N ha hb h
  · have := has_kind ((h _).symm.trans (has_lo ha))
    rcases this with e | e
    · exact absurd e (T_not4 hb).1
    · rw [hb.kind] at e; exact absurd e (N_not4 ha).2.1
  · have := has_frm ha; rw [h, has_none] at this; simp at this
  · exact (any_kinds a (T_not4 ha).1 (fun v hv => by rw [h, has_any]; exact hv)).elim
  · have := has_kind ((h _).symm.trans (has_frm ha))
    rcases this with e | e
    · exact absurd e (N_not4 hb).1
    · exact absurd e.symm (N_not4 hb).2.1
  · exact one_T ha hb h
/-! Is a span in another one? -/
def inn (a b : Sp) : Bool :=
  if a.kind = 0 ∨ b.kind = 4 then true else if a.kind ≠ b.kind then false
  else !(b.no.any fun v => has a v) && (if a.kind = 2 then !bytesLess a.frm b.frm && (b.opn || (!a.opn && !bytesLess b.to_ a.to_)) else decide (b.lo ≤ a.lo) && decide (a.hi ≤ b.hi))
theorem no_any {a b : Sp} : (b.no.any fun v => has a v) = false ↔ ∀ v, has a v = true → v ∉ b.no := by
  rw [Bool.eq_false_iff]
  simp only [ne_eq, List.any_eq_true, not_exists, not_and]
  exact ⟨fun h v hv hm => h v hm hv, fun h v hm hv => h v hv hm⟩
theorem in_iff {a b : Sp} (ha : Canon a) (hb : Canon b) : inn a b = true ↔ ∀ v, has a v = true → has b v = true := by
  unfold inn
  by_cases h0 : a.kind = 0 ∨ b.kind = 4
  · rw [if_pos h0]
    refine ⟨fun _ v hv => ?_, fun _ => rfl⟩
    rcases h0 with h0 | h0
    · unfold has at hv; rw [if_pos h0] at hv; simp at hv
    · unfold has; rw [h0]; simpa using has_right hv
  · rw [if_neg h0]
    have h1 : a.kind ≠ 0 := fun e => h0 (.inl e)
    have h2 : b.kind ≠ 4 := fun e => h0 (.inr e)
    by_cases hk : a.kind = b.kind
    · rw [if_neg (by simpa using hk)]
      rcases ha with rfl | rfl | ha | ha
      · exact absurd rfl h1
      · exact absurd hk.symm h2
      · rcases hb with rfl | rfl | hb | hb
        · exact absurd hk (N_not4 ha).2.2
        · exact absurd rfl h2
        · rw [if_neg (N_not4 ha).2.1]
          constructor
          · intro h v hv
            simp only [Bool.and_eq_true, Bool.not_eq_true', decide_eq_true_eq] at h
            obtain ⟨g1, g2, g3⟩ := h
            have hn := no_any.1 g1 v hv
            rw [N_iff ha] at hv
            exact (N_iff hb v).2 ⟨hv.1, hv.2.1.trans hk, hn, by omega, by omega⟩
          · intro h
            obtain ⟨_, g1, g2⟩ := sub_N ha hb h
            simp only [Bool.and_eq_true, Bool.not_eq_true', decide_eq_true_eq]
            refine ⟨no_any.2 fun v hv => ?_, g1, g2⟩
            have := h v hv
            rw [N_iff hb] at this
            exact this.2.2.1
        · rw [hb.kind] at hk; exact absurd hk (N_not4 ha).2.1
      · rcases hb with rfl | rfl | hb | hb
        · exact absurd hk h1
        · exact absurd rfl h2
        · rw [ha.kind] at hk; exact absurd hk.symm (N_not4 hb).2.1
        · rw [if_pos ha.kind]
          constructor
          · intro h v hv
            simp only [Bool.and_eq_true, Bool.not_eq_true', Bool.or_eq_true] at h
            obtain ⟨g1, g2, g3⟩ := h
            have hn := no_any.1 g1 v hv
            rw [T_iff ha] at hv
            refine (T_iff hb v).2 ⟨hv.1, hv.2.1, hn, le_trans g2 hv.2.2.2.1, ?_⟩
            rcases g3 with g3 | ⟨g3, g4⟩
            · exact .inl g3
            · rcases hv.2.2.2.2 with k | k
              · rw [g3] at k; simp at k
              · exact .inr (lt_of_lt_of_le k g4)
          · intro h
            obtain ⟨g1, g2⟩ := sub_T ha hb h
            simp only [Bool.and_eq_true, Bool.not_eq_true', Bool.or_eq_true]
            refine ⟨no_any.2 fun v hv => ?_, g1, g2⟩
            have := h v hv
            rw [T_iff hb] at this
            exact this.2.2.1
    · rw [if_pos hk]
      refine ⟨fun h => by simp at h, fun h => ?_⟩
      exfalso
      rcases ha with rfl | rfl | ha | ha
      · exact h1 rfl
      · exact any_kinds b h2 (fun v hv => h v (by rw [has_any]; exact hv))
      · rcases has_kind (h _ (has_lo ha)) with e | e
        · exact h2 e
        · exact hk e
      · rcases has_kind (h _ (has_frm ha)) with e | e
        · exact h2 e
        · exact hk (ha.kind.trans e)
/-! Spans of numbers but some, of texts but some. -/
theorem has_wrong {a : Sp} {v : Val} (h : rightV v = false) : has a v = false := by
  cases hq : has a v with
  | false => rfl
  | true => rw [has_right hq] at h; simp at h
theorem one_right {a b : Sp} (ha : Canon a) (hb : Canon b) (h : ∀ v, rightV v = true → has a v = has b v) : a = b :=
  one ha hb fun v => by
    cases hr : rightV v with
    | false => rw [has_wrong hr, has_wrong hr]
    | true => exact h v hr
/-- The span of the numbers of a kind from lo to hi, but some. -/
def IsInts (k lo hi : Int) (l : List Val) (r : Sp) : Prop := Canon r ∧ ∀ v, rightV v = true → (has r v = true ↔ v.k = k ∧ lo ≤ v.i ∧ v.i ≤ hi ∧ v ∉ l)
/-- The span of the texts from a text on, ahead of an end, but some. -/
def IsTexts (frm to_ : List UInt8) (opn : Bool) (l : List Val) (r : Sp) : Prop :=
  Canon r ∧ ∀ v, rightV v = true → (has r v = true ↔ v.k = 2 ∧ bytesLess v.t frm = false ∧ (opn = true ∨ bytesLess v.t to_ = true) ∧ v ∉ l)
theorem right_numT {v : Val} (hr : rightV v = true) (hk : v.k = 1 ∨ v.k = 3) : v.t = [] := by
  rw [rightV_iff] at hr
  rcases Vals.right_cases hr.1 with ⟨_, h⟩ | ⟨h, _⟩ | ⟨_, h, _⟩
  · exact h
  · omega
  · exact h
theorem right_textI {v : Val} (hr : rightV v = true) (hk : v.k = 2) : v.i = 0 ∧ v.t.length ≤ 64 := by
  rw [rightV_iff] at hr
  rcases Vals.right_cases hr.1 with ⟨h, _⟩ | ⟨_, h⟩ | ⟨h, _⟩
  · omega
  · exact h
  · omega
theorem IsInts.one {k lo hi : Int} {l : List Val} {r r' : Sp} (h : IsInts k lo hi l r) (h' : IsInts k lo hi l r') : r = r' :=
  one_right h.1 h'.1 fun v hr => by rw [Bool.eq_iff_iff, h.2 v hr, h'.2 v hr]
theorem IsTexts.one {frm to_ : List UInt8} {opn : Bool} {l : List Val} {r r' : Sp} (h : IsTexts frm to_ opn l r) (h' : IsTexts frm to_ opn l r') : r = r' :=
  one_right h.1 h'.1 fun v hr => by rw [Bool.eq_iff_iff, h.2 v hr, h'.2 v hr]
/-! What is in both. -/
def IsMeet (a b r : Sp) : Prop := Canon r ∧ ∀ v, rightV v = true → (has r v = true ↔ has a v = true ∧ has b v = true)
theorem IsMeet.one {a b r r' : Sp} (h : IsMeet a b r) (h' : IsMeet a b r') : r = r' :=
  one_right h.1 h'.1 fun v hr => by rw [Bool.eq_iff_iff, h.2 v hr, h'.2 v hr]
theorem IsMeet.has {a b r : Sp} (h : IsMeet a b r) (v : Val) : has r v = (has a v && has b v) := by
  cases hr : rightV v with
  | false => rw [has_wrong hr, has_wrong hr]; rfl
  | true => rw [Bool.eq_iff_iff, h.2 v hr]; simp
end Spans
namespace Spans
open Go.Op (bytesLess)
/-- A predicate. -/
structure Pr where
  n : List UInt8
  o : Int
  k : Int
  i : Int
  t : List UInt8
instance : Inhabited Pr := ⟨⟨[], 0, 0, 0, []⟩⟩
instance : DecidableEq Pr := fun a b => decidable_of_iff (a.n = b.n ∧ a.o = b.o ∧ a.k = b.k ∧ a.i = b.i ∧ a.t = b.t) (by cases a; cases b; simp)
def rightP (p : Pr) : Bool := Preds.right p.n p.o p.k p.i p.t && (decide (-9223372036854775808 ≤ p.i) && decide (p.i ≤ 9223372036854775807))
theorem rightP_iff (p : Pr) : rightP p = true ↔ Preds.right p.n p.o p.k p.i p.t = true ∧ -9223372036854775808 ≤ p.i ∧ p.i ≤ 9223372036854775807 := by unfold rightP; simp
def holdsP (p : Pr) (v : Val) : Bool := Preds.holds p.n p.o p.k p.i p.t v.k v.i v.t
def sideV (p : Pr) : Val := ⟨p.k, p.i, p.t⟩
/-! Texts that begin with others. -/
/-- The text behind all that begin with one. -/
def up : List UInt8 → Option (List UInt8)
  | [] => none
  | x :: p =>
    match up p with
    | some u => some (x :: u)
    | none => if x = 255 then none else some [x + 1]
theorem up_cons (x : UInt8) (p : List UInt8) : up (x :: p) = match up p with
    | some u => some (x :: u)
    | none => if x = 255 then none else some [x + 1] := rfl
theorem begins_nil (t : List UInt8) : Preds.begins t [] = true := by unfold Preds.begins; simp
theorem begins_cons (x y : UInt8) (t p : List UInt8) : Preds.begins (y :: t) (x :: p) = (decide (y = x) && Preds.begins t p) := by
  unfold Preds.begins
  by_cases h : y = x
  · simp [h]
  · simp [h]
theorem begins_short (x : UInt8) (p : List UInt8) : Preds.begins [] (x :: p) = false := by unfold Preds.begins; simp
/-- A text begins with another one just if it stands from that on, and ahead of the text behind all of these. -/
theorem begins_iff : ∀ (p t : List UInt8), Preds.begins t p = true ↔ bytesLess t p = false ∧ ∀ u, up p = some u → bytesLess t u = true
  | [], t => by
    rw [begins_nil]
    simp only [true_iff]
    refine ⟨by cases t <;> rfl, fun u hu => by simp [up] at hu⟩
  | x :: p, [] => by
    rw [begins_short]
    simp [bytesLess]
  | x :: p, y :: t => by
    rw [begins_cons, Bool.and_eq_true, decide_eq_true_eq, begins_iff p t]
    have hl : ∀ (a b : UInt8) (c d : List UInt8), bytesLess (a :: c) (b :: d) = true ↔ a.toNat < b.toNat ∨ a = b ∧ bytesLess c d = true := by
      intro a b c d
      simp [bytesLess, UInt8.lt_iff_toNat_lt]
    have hf : ∀ (a b : UInt8) (c d : List UInt8), bytesLess (a :: c) (b :: d) = false ↔ ¬ (a.toNat < b.toNat ∨ a = b ∧ bytesLess c d = true) := by
      intro a b c d
      rw [← hl, Bool.not_eq_true]
    rw [hf]
    have hinj : ∀ a b : UInt8, a.toNat = b.toNat → a = b := fun a b h => UInt8.toNat_inj.1 h
    rw [up_cons]
    cases hq : up p with
    | some u =>
      constructor
      · rintro ⟨rfl, h1, h2⟩
        refine ⟨?_, fun w hw => ?_⟩
        · rintro (h | ⟨_, h⟩)
          · omega
          · rw [h1] at h; simp at h
        · injection hw with hw
          subst hw
          rw [hl]
          exact .inr ⟨rfl, h2 u rfl⟩
      · rintro ⟨h1, h2⟩
        have h3 := h2 _ rfl
        rw [hl] at h3
        have e : y = x := by
          rcases h3 with h3 | h3
          · exact absurd (.inl h3) h1
          · exact h3.1
        subst e
        refine ⟨rfl, ?_, fun w hw => ?_⟩
        · cases hb : bytesLess t p with
          | false => rfl
          | true => exact absurd (.inr ⟨rfl, hb⟩) h1
        · injection hw with hw
          subst hw
          rcases h3 with h3 | h3
          · omega
          · exact h3.2
    | none =>
      by_cases hx : x = 255
      · subst hx
        simp only [if_true]
        constructor
        · rintro ⟨rfl, h1, _⟩
          refine ⟨?_, fun w hw => by simp at hw⟩
          rintro (h | ⟨_, h⟩)
          · omega
          · rw [h1] at h; simp at h
        · rintro ⟨h1, _⟩
          have e : y = 255 := by
            refine hinj _ _ ?_
            have := y.toNat_lt
            have : ¬ y.toNat < (255 : UInt8).toNat := fun h => h1 (.inl h)
            simp at this ⊢; omega
          refine ⟨e, ?_, fun w hw => by simp at hw⟩
          cases hb : bytesLess t p with
          | false => rfl
          | true => exact absurd (.inr ⟨e, hb⟩) h1
      · simp only [if_neg hx]
        have hx1 : (x + 1).toNat = x.toNat + 1 := by
          have := x.toNat_lt
          have : x.toNat ≠ 255 := fun h => hx (hinj _ _ (by simpa using h))
          rw [UInt8.toNat_add]; simp; omega
        constructor
        · rintro ⟨rfl, h1, _⟩
          refine ⟨?_, fun w hw => ?_⟩
          · rintro (h | ⟨_, h⟩)
            · omega
            · rw [h1] at h; simp at h
          · injection hw with hw
            subst hw
            rw [hl]
            left; omega
        · rintro ⟨h1, h2⟩
          have h3 := h2 _ rfl
          rw [hl] at h3
          have e : y = x := by
            refine hinj _ _ ?_
            have : ¬ y.toNat < x.toNat := fun h => h1 (.inl h)
            rcases h3 with h3 | ⟨_, h3⟩
            · omega
            · cases t <;> simp [bytesLess] at h3
          subst e
          refine ⟨rfl, ?_, fun w hw => by simp at hw⟩
          cases hb : bytesLess t p with
          | false => rfl
          | true => exact absurd (.inr ⟨rfl, hb⟩) h1
/-! Of what predicates hold. -/
def ofLo (p : Pr) : Int := if p.o = 1 ∨ p.o = 6 then p.i else if p.o = 5 then p.i + 1 else lowest p.k
def ofHi (p : Pr) : Int := if p.o = 1 ∨ p.o = 4 then p.i else if p.o = 3 then p.i - 1 else highest p.k
def ofNo (p : Pr) : List Val := if p.o = 2 then [sideV p] else []
def ofFrm (p : Pr) : List UInt8 := if p.o = 1 ∨ p.o = 6 ∨ p.o = 7 then p.t else if p.o = 5 then p.t ++ [0] else []
def ofTo (p : Pr) : List UInt8 := if p.o = 1 ∨ p.o = 4 then p.t ++ [0] else if p.o = 3 then p.t else if p.o = 7 then (up p.t).getD [] else []
def ofOpn (p : Pr) : Bool := if p.o = 1 ∨ p.o = 3 ∨ p.o = 4 then false else if p.o = 7 then (up p.t).isNone else true
theorem rightP_cases {p : Pr} (h : rightP p = true) : (p.o = 8 ∧ p.k = 0 ∧ p.i = 0 ∧ p.t = []) ∨ (p.o ≠ 8 ∧ 1 ≤ p.o ∧ p.o ≤ 7 ∧ Vals.right p.k p.i p.t = true ∧ p.t.length ≤ 32 ∧ (p.o = 7 → p.k = 2)) :=
  Preds.asks_cases (Preds.right_parts ((rightP_iff p).1 h).1).2.2
theorem num_bd {v : Val} (hr : rightV v = true) (hk : v.k = 1 ∨ v.k = 3) : lowest v.k ≤ v.i ∧ v.i ≤ highest v.k := by
  rw [rightV_iff] at hr
  rcases Vals.right_cases hr.1 with ⟨h, _⟩ | ⟨h, _⟩ | ⟨h, _, h'⟩
  · rw [h]; simp [lowest, highest]; omega
  · omega
  · rw [h]; simp [lowest, highest]; omega
theorem holds_met {p : Pr} {v : Val} (h : rightP p = true) (hv : rightV v = true) : holdsP p v = Preds.met p.o p.k p.i p.t v.k v.i v.t := by
  unfold holdsP Preds.holds
  rw [((rightP_iff p).1 h).1, ((rightV_iff v).1 hv).1]; rfl
theorem holds_wrong {p : Pr} {v : Val} (h : Preds.right p.n p.o p.k p.i p.t = false) : holdsP p v = false := by
  unfold holdsP Preds.holds
  rw [h]; rfl
theorem holds_E {p : Pr} {v : Val} (h : rightP p = true) (h8 : p.o = 8) (hv : rightV v = true) : holdsP p v = true := by
  rw [holds_met h hv]
  unfold Preds.met
  rw [if_pos h8]
theorem cmp_num (k a b : Int) : Vals.cmp k a [] k b [] = Vals.cmpI a b := by
  unfold Vals.cmp
  rw [if_neg (by simp [Vals.cmpI_zero])]
  by_cases h : Vals.cmpI a b = 0
  · rw [if_neg (by simpa using h), h]; rfl
  · rw [if_pos h]
theorem cmp_txt (a b : List UInt8) : Vals.cmp 2 0 a 2 0 b = Vals.cmpT a b := by
  unfold Vals.cmp Vals.cmpI
  simp
theorem holds_N {p : Pr} {v : Val} (h : rightP p = true) (hk : p.k = 1 ∨ p.k = 3) (hv : rightV v = true) : holdsP p v = true ↔ v.k = p.k ∧ ofLo p ≤ v.i ∧ v.i ≤ ofHi p ∧ v ∉ ofNo p := by
  rw [holds_met h hv]
  rcases rightP_cases h with ⟨_, e, _⟩ | ⟨h8, h1, h2, hr, hl, h7⟩
  · omega
  · have h7' : p.o ≠ 7 := fun e => by have := h7 e; omega
    unfold Preds.met
    rw [if_neg h8, if_neg h7', Bool.and_eq_true, decide_eq_true_eq]
    have hpt : p.t = [] := by
      rcases Vals.right_cases hr with ⟨_, h⟩ | ⟨h, _⟩ | ⟨_, h, _⟩
      · exact h
      · omega
      · exact h
    constructor
    · rintro ⟨hvk, ha⟩
      have hvt := right_numT hv (by omega)
      obtain ⟨b1, b2⟩ := num_bd hv (by omega)
      rw [hvk, hvt, hpt, cmp_num] at ha
      refine ⟨hvk, ?_⟩
      unfold ofLo ofHi ofNo
      have ho : p.o = 1 ∨ p.o = 2 ∨ p.o = 3 ∨ p.o = 4 ∨ p.o = 5 ∨ p.o = 6 := by omega
      rw [hvk] at b1 b2
      rcases ho with ho | ho | ho | ho | ho | ho <;> rw [ho] at ha ⊢ <;> simp [Preds.allows] at ha ⊢ <;> unfold Vals.cmpI at ha
      · split at ha
        · omega
        · split at ha <;> omega
      · refine ⟨b1, b2, fun e => ?_⟩
        have : v.i = p.i := by rw [e]; rfl
        rw [this] at ha
        simp at ha
      · split at ha
        · omega
        · split at ha <;> omega
      · split at ha
        · omega
        · split at ha <;> omega
      · split at ha
        · omega
        · split at ha <;> omega
      · split at ha
        · omega
        · split at ha <;> omega
    · rintro ⟨hvk, g1, g2, g3⟩
      have hvt := right_numT hv (by omega)
      refine ⟨hvk, ?_⟩
      rw [hvk, hvt, hpt, cmp_num]
      unfold ofLo at g1
      unfold ofHi at g2
      unfold ofNo at g3
      have ho : p.o = 1 ∨ p.o = 2 ∨ p.o = 3 ∨ p.o = 4 ∨ p.o = 5 ∨ p.o = 6 := by omega
      rcases ho with ho | ho | ho | ho | ho | ho <;> rw [ho] at g1 g2 g3 ⊢ <;> simp [Preds.allows] at g1 g2 g3 ⊢ <;> unfold Vals.cmpI
      · split
        · omega
        · split <;> omega
      · have : v.i ≠ p.i := fun e => g3 (Val.ext_ hvk e (hvt.trans hpt.symm))
        split
        · omega
        · split <;> omega
      · split
        · omega
        · split <;> omega
      · split
        · omega
        · split <;> omega
      · split
        · omega
        · split <;> omega
      · split
        · omega
        · split <;> omega
theorem lt_next (v t : List UInt8) : bytesLess v (t ++ [0]) = true ↔ bytesLess t v = false := by
  constructor
  · intro h
    cases hq : bytesLess t v with
    | false => rfl
    | true => rw [next_le _ _ hq] at h; simp at h
  · intro h
    exact lt_of_le_of_lt h (lt_snoc t)
theorem cmpT_neg_iff (a b : List UInt8) : Vals.cmpT a b < 0 ↔ bytesLess a b = true := by
  unfold Vals.cmpT
  split
  · rename_i h; simp [h]
  · rename_i h
    split <;> simp [h]
theorem cmpT_pos_iff (a b : List UInt8) : 0 < Vals.cmpT a b ↔ bytesLess b a = true := by
  rw [← cmpT_neg_iff b a, Vals.cmpT_neg a b]; omega
theorem holds_T {p : Pr} {v : Val} (h : rightP p = true) (hk : p.k = 2) (hv : rightV v = true) : holdsP p v = true ↔ v.k = 2 ∧ bytesLess v.t (ofFrm p) = false ∧ (ofOpn p = true ∨ bytesLess v.t (ofTo p) = true) ∧ v ∉ ofNo p := by
  rw [holds_met h hv]
  rcases rightP_cases h with ⟨_, e, _⟩ | ⟨h8, h1, h2, hr, hl, h7⟩
  · omega
  · unfold Preds.met
    rw [if_neg h8, Bool.and_eq_true, decide_eq_true_eq, hk]
    have hpi : p.i = 0 := by
      rcases Vals.right_cases hr with ⟨h, _⟩ | ⟨_, h, _⟩ | ⟨h, _⟩
      · omega
      · exact h
      · omega
    have hnil : ∀ t : List UInt8, bytesLess t [] = false := fun t => by cases t <;> rfl
    by_cases hvk : v.k = 2
    · have hvi := (right_textI hv hvk).1
      have hc : Vals.cmp v.k v.i v.t 2 p.i p.t = Vals.cmpT v.t p.t := by rw [hvk, hvi, hpi, cmp_txt]
      rw [hc]
      have hne : v = sideV p ↔ v.t = p.t := ⟨fun e => by rw [e]; rfl, fun e => Val.ext_ (hvk.trans hk.symm) (hvi.trans hpi.symm) e⟩
      unfold ofFrm ofTo ofOpn ofNo
      have ho : p.o = 1 ∨ p.o = 2 ∨ p.o = 3 ∨ p.o = 4 ∨ p.o = 5 ∨ p.o = 6 ∨ p.o = 7 := by omega
      rcases ho with ho | ho | ho | ho | ho | ho | ho <;> rw [ho] <;> simp [Preds.allows, hvk]
      · rw [Vals.cmpT_zero, lt_next]
        exact ⟨fun e => by rw [e, Vals.less_irr]; exact ⟨rfl, rfl⟩, fun ⟨a, b⟩ => Vals.less_tri _ _ a b⟩
      · rw [Vals.cmpT_zero, hne]
        exact ⟨fun e => ⟨hnil _, e⟩, fun e => e.2⟩
      · rw [cmpT_neg_iff]
        exact ⟨fun e => ⟨hnil _, e⟩, fun e => e.2⟩
      · rw [Vals.cmpT_le, lt_next]
        exact ⟨fun e => ⟨hnil _, e⟩, fun e => e.2⟩
      · rw [cmpT_pos_iff, Bool.eq_false_iff, ne_eq, lt_next, Bool.not_eq_false]
      · rw [← Int.not_lt, cmpT_neg_iff, Bool.not_eq_true]
      · rw [begins_iff]
        cases hq : up p.t with
        | none => simp
        | some u => simp
    · simp [hvk]
/-- The span of the values of which a predicate holds. -/
def IsOf (p : Pr) (r : Sp) : Prop := Canon r ∧ ∀ v, rightV v = true → (has r v = true ↔ holdsP p v = true)
theorem IsOf.one {p : Pr} {r r' : Sp} (h : IsOf p r) (h' : IsOf p r') : r = r' := one_right h.1 h'.1 fun v hr => by rw [Bool.eq_iff_iff, h.2 v hr, h'.2 v hr]
/-- The span of the values of which all of some predicates hold. -/
def IsAll (l : List Pr) (r : Sp) : Prop := Canon r ∧ ∀ v, rightV v = true → (has r v = true ↔ ∀ p ∈ l, holdsP p v = true)
theorem IsAll.one {l : List Pr} {r r' : Sp} (h : IsAll l r) (h' : IsAll l r') : r = r' := one_right h.1 h'.1 fun v hr => by rw [Bool.eq_iff_iff, h.2 v hr, h'.2 v hr]
end Spans
namespace Spans
open Go.Op (bytesLess)
/-- A text without the byte 0 at its end, if it ends with one. -/
def zeroEnd (s : List UInt8) : Option (List UInt8) := if s.getLast? = some 0 then some s.dropLast else none
theorem zeroEnd_iff (s u : List UInt8) : zeroEnd s = some u ↔ s = u ++ [0] := by
  unfold zeroEnd
  constructor
  · intro h
    split at h
    · rename_i hl
      injection h with h
      subst h
      obtain ⟨ys, rfl⟩ := List.getLast?_eq_some_iff.1 hl
      simp
    · simp at h
  · rintro rfl
    simp
theorem zeroEnd_none (s : List UInt8) (h : zeroEnd s = none) : ∀ u, s ≠ u ++ [0] := fun u e => by
  rw [(zeroEnd_iff s u).2 e] at h; simp at h
def frmP (n : List UInt8) (a : Sp) : List Pr :=
  match zeroEnd a.frm with
  | some u => [⟨n, 5, 2, 0, u⟩]
  | none => if a.frm = [] then [] else [⟨n, 6, 2, 0, a.frm⟩]
def toP (n : List UInt8) (a : Sp) : List Pr :=
  if a.opn = true then [] else
  match zeroEnd a.to_ with
  | some u => [⟨n, 4, 2, 0, u⟩]
  | none => [⟨n, 3, 2, 0, a.to_⟩]
def loP (n : List UInt8) (a : Sp) : List Pr := if a.kind = 1 ∧ -9223372036854775808 < a.lo then [⟨n, 6, 1, a.lo, []⟩] else []
def hiP (n : List UInt8) (a : Sp) : List Pr := if a.kind = 1 ∧ a.hi < 9223372036854775807 then [⟨n, 4, 1, a.hi, []⟩] else []
def noP (n : List UInt8) (a : Sp) : List Pr := a.no.map fun v => ⟨n, 2, v.k, v.i, v.t⟩
def orP (l : List Pr) (d : Pr) : List Pr := if l = [] then [d] else l
/-- The predicates of a span. -/
def predsOf (n : List UInt8) (a : Sp) : List Pr :=
  if a.kind = 0 then [] else if a.kind = 4 then [⟨n, 8, 0, 0, []⟩]
  else if a.kind = 2 then (if a.opn = false ∧ a.to_ = a.frm ++ [0] then [⟨n, 1, 2, 0, a.frm⟩] else orP (frmP n a ++ toP n a ++ noP n a) ⟨n, 6, 2, 0, []⟩)
  else if a.lo = a.hi then [⟨n, 1, a.kind, a.lo, []⟩] else orP (loP n a ++ hiP n a ++ noP n a) ⟨n, 6, a.kind, lowest a.kind, []⟩
theorem mk_right (n : List UInt8) (o k i : Int) (t : List UInt8) (h1 : 1 ≤ n.length) (h2 : n.length ≤ 16) (ho : 1 ≤ o) (ho2 : o ≤ 6) (hv : rightV ⟨k, i, t⟩ = true) (hl : t.length ≤ 32) : rightP ⟨n, o, k, i, t⟩ = true := by
  rw [rightV_iff] at hv
  rw [rightP_iff]
  refine ⟨?_, hv.2⟩
  show Preds.right n o k i t = true
  unfold Preds.right
  rw [Preds.asks_of (by omega) ho (by omega) hv.1 hl (fun e => by omega)]
  simp [h1, h2]
theorem mem_orP {l : List Pr} {d p : Pr} (h : p ∈ orP l d) : p = d ∨ p ∈ l := by
  unfold orP at h
  split at h
  · exact .inl (by simpa using h)
  · exact .inr h
theorem orP_ne (l : List Pr) (d : Pr) : orP l d ≠ [] := by
  unfold orP
  split
  · simp
  · assumption
/-- What a span's predicates are: right, and of that name. -/
def Fine (n : List UInt8) (p : Pr) : Prop := rightP p = true ∧ p.n = n
theorem no_right {a : Sp} (h : Canon a) : ∀ v ∈ a.no, rightV v = true ∧ v.t.length ≤ 32 := by
  intro v hv
  rcases h with rfl | rfl | h | h
  · simp [none_] at hv
  · simp [any_] at hv
  · obtain ⟨n1, n2, n3, n4⟩ := h.no v hv
    have := h.low
    have := h.high
    have e : v = ⟨a.kind, v.i, []⟩ := Val.ext_ n1 rfl n2
    refine ⟨?_, by rw [n2]; simp⟩
    rw [e]
    exact right_num h.kind (by show _ ≤ v.i; omega) (by show v.i ≤ _; omega)
  · obtain ⟨n1, n2, n3, _⟩ := h.no v hv
    have e : v = ⟨2, 0, v.t⟩ := Val.ext_ n1 n2 rfl
    refine ⟨?_, n3⟩
    rw [e]
    exact right_text _ (by omega)
theorem noP_fine {n : List UInt8} {a : Sp} (h : Canon a) (h1 : 1 ≤ n.length) (h2 : n.length ≤ 16) : ∀ p ∈ noP n a, Fine n p := by
  intro p hp
  obtain ⟨v, hv, rfl⟩ := List.mem_map.1 hp
  obtain ⟨r1, r2⟩ := no_right h v hv
  exact ⟨mk_right n 2 v.k v.i v.t h1 h2 (by decide) (by decide) r1 r2, rfl⟩
theorem frmP_fine {n : List UInt8} {a : Sp} (h : CanonT a) (h1 : 1 ≤ n.length) (h2 : n.length ≤ 16) : ∀ p ∈ frmP n a, Fine n p := by
  intro p hp
  unfold frmP at hp
  have hl := h.flen.len
  cases hq : zeroEnd a.frm with
  | some u =>
    rw [hq] at hp
    simp at hp
    subst hp
    have e := (zeroEnd_iff _ _).1 hq
    have : u.length ≤ 32 := by rw [e] at hl; simp at hl; omega
    exact ⟨mk_right n 5 2 0 u h1 h2 (by decide) (by decide) (right_text _ (by omega)) this, rfl⟩
  | none =>
    rw [hq] at hp
    by_cases he : a.frm = []
    · simp [he] at hp
    · simp [he] at hp
      subst hp
      have : a.frm.length ≤ 32 := by
        rcases h.flen with hf | ⟨u, hu, _⟩
        · exact hf
        · exact absurd hu (zeroEnd_none _ hq u)
      exact ⟨mk_right n 6 2 0 a.frm h1 h2 (by decide) (by decide) (right_text _ (by omega)) this, rfl⟩
theorem toP_fine {n : List UInt8} {a : Sp} (h : CanonT a) (h1 : 1 ≤ n.length) (h2 : n.length ≤ 16) : ∀ p ∈ toP n a, Fine n p := by
  intro p hp
  unfold toP at hp
  cases ho : a.opn with
  | true => rw [ho] at hp; simp at hp
  | false =>
    rw [ho] at hp
    have hsh := (h.shut ho).1
    have hl := hsh.len
    simp only [Bool.false_eq_true, if_false] at hp
    cases hq : zeroEnd a.to_ with
    | some u =>
      rw [hq] at hp
      simp at hp
      subst hp
      have e := (zeroEnd_iff _ _).1 hq
      have : u.length ≤ 32 := by rw [e] at hl; simp at hl; omega
      exact ⟨mk_right n 4 2 0 u h1 h2 (by decide) (by decide) (right_text _ (by omega)) this, rfl⟩
    | none =>
      rw [hq] at hp
      simp at hp
      subst hp
      have : a.to_.length ≤ 32 := by
        rcases hsh with hf | ⟨u, hu, _⟩
        · exact hf
        · exact absurd hu (zeroEnd_none _ hq u)
      exact ⟨mk_right n 3 2 0 a.to_ h1 h2 (by decide) (by decide) (right_text _ (by omega)) this, rfl⟩
theorem preds_fine {n : List UInt8} {a : Sp} (h : Canon a) (h1 : 1 ≤ n.length) (h2 : n.length ≤ 16) : ∀ p ∈ predsOf n a, Fine n p := by
  intro p hp
  have hno := noP_fine h h1 h2
  unfold predsOf at hp
  rcases h with rfl | rfl | h | h
  · simp [none_] at hp
  · simp [any_] at hp
    subst hp
    refine ⟨?_, rfl⟩
    rw [rightP_iff]
    refine ⟨?_, by show -9223372036854775808 ≤ (0 : Int); decide, by show (0 : Int) ≤ 9223372036854775807; decide⟩
    show Preds.right n 8 0 0 [] = true
    unfold Preds.right Preds.asks
    simp [h1, h2]
  · obtain ⟨k1, k2, k3⟩ := N_not4 h
    have g1 := h.low
    have g2 := h.ord
    have g3 := h.high
    rw [if_neg k3, if_neg k1, if_neg k2] at hp
    split at hp
    · simp at hp
      subst hp
      exact ⟨mk_right n 1 a.kind a.lo [] h1 h2 (by decide) (by decide) (right_num h.kind g1 (by omega)) (by simp), rfl⟩
    · rcases mem_orP hp with rfl | hp
      · exact ⟨mk_right n 6 a.kind (lowest a.kind) [] h1 h2 (by decide) (by decide) (right_num h.kind (Int.le_refl _) (by omega)) (by simp), rfl⟩
      · rcases List.mem_append.1 hp with hp | hp
        · rcases List.mem_append.1 hp with hp | hp
          · unfold loP at hp
            split at hp
            · rename_i hc
              simp at hp
              subst hp
              rw [hc.1] at g1 g3
              exact ⟨mk_right n 6 1 a.lo [] h1 h2 (by decide) (by decide) (right_num (.inl rfl) g1 (by omega)) (by simp), rfl⟩
            · simp at hp
          · unfold hiP at hp
            split at hp
            · rename_i hc
              simp at hp
              subst hp
              rw [hc.1] at g1 g3
              exact ⟨mk_right n 4 1 a.hi [] h1 h2 (by decide) (by decide) (right_num (.inl rfl) (by omega) g3) (by simp), rfl⟩
            · simp at hp
        · exact hno p hp
  · have hk := h.kind
    rw [if_neg (T_not4 h).2, if_neg (T_not4 h).1, if_pos hk] at hp
    split at hp
    · rename_i hc
      simp at hp
      subst hp
      have hl := (h.shut hc.1).1.len
      rw [hc.2] at hl
      have hl' : a.frm.length ≤ 32 := by simp at hl; omega
      exact ⟨mk_right n 1 2 0 a.frm h1 h2 (by decide) (by decide) (right_text _ (by omega)) hl', rfl⟩
    · rcases mem_orP hp with rfl | hp
      · exact ⟨mk_right n 6 2 0 [] h1 h2 (by decide) (by decide) (right_text _ (by simp)) (by simp), rfl⟩
      · rcases List.mem_append.1 hp with hp | hp
        · rcases List.mem_append.1 hp with hp | hp
          · exact frmP_fine h h1 h2 p hp
          · exact toP_fine h h1 h2 p hp
        · exact hno p hp
/-- All of some predicates of one kind hold: of a value of that kind, and each of it. -/
theorem all_kind {l : List Pr} {k : Int} {C : Pr → Prop} {v : Val} (hne : l ≠ []) (h : ∀ p ∈ l, holdsP p v = true ↔ v.k = k ∧ C p) : (∀ p ∈ l, holdsP p v = true) ↔ v.k = k ∧ ∀ p ∈ l, C p := by
  constructor
  · intro g
    obtain ⟨p, hp⟩ := List.exists_mem_of_ne_nil l hne
    exact ⟨((h p hp).1 (g p hp)).1, fun q hq => ((h q hq).1 (g q hq)).2⟩
  · rintro ⟨g1, g2⟩ p hp
    exact (h p hp).2 ⟨g1, g2 p hp⟩
def CN (v : Val) (p : Pr) : Prop := ofLo p ≤ v.i ∧ v.i ≤ ofHi p ∧ v ∉ ofNo p
def CT (v : Val) (p : Pr) : Prop := bytesLess v.t (ofFrm p) = false ∧ (ofOpn p = true ∨ bytesLess v.t (ofTo p) = true) ∧ v ∉ ofNo p
theorem orP_all {l : List Pr} {d : Pr} {C : Pr → Prop} (h : l = [] → C d) : (∀ p ∈ orP l d, C p) ↔ ∀ p ∈ l, C p := by
  unfold orP
  split
  · rename_i he
    rw [he]
    simp [h he]
  · rfl
theorem app_all {l m : List Pr} {C : Pr → Prop} : (∀ p ∈ l ++ m, C p) ↔ (∀ p ∈ l, C p) ∧ ∀ p ∈ m, C p := by
  simp [or_imp, forall_and]
theorem less_nil (t : List UInt8) : bytesLess t [] = false := by cases t <;> rfl
theorem frmP_all (n : List UInt8) (a : Sp) (v : Val) : (∀ p ∈ frmP n a, CT v p) ↔ bytesLess v.t a.frm = false := by
  unfold frmP
  cases hq : zeroEnd a.frm with
  | some u =>
    have e := (zeroEnd_iff _ _).1 hq
    simp [CT, ofFrm, ofOpn, ofNo, e]
  | none =>
    by_cases he : a.frm = []
    · simp [he, less_nil]
    · simp [he, CT, ofFrm, ofOpn, ofNo]
theorem toP_all (n : List UInt8) (a : Sp) (v : Val) : (∀ p ∈ toP n a, CT v p) ↔ a.opn = true ∨ bytesLess v.t a.to_ = true := by
  unfold toP
  cases ho : a.opn with
  | true => simp
  | false =>
    cases hq : zeroEnd a.to_ with
    | some u =>
      have e := (zeroEnd_iff _ _).1 hq
      simp [CT, ofFrm, ofTo, ofOpn, ofNo, e, less_nil]
    | none => simp [CT, ofFrm, ofTo, ofOpn, ofNo, less_nil]
theorem noP_all_T (n : List UInt8) (a : Sp) (v : Val) : (∀ p ∈ noP n a, CT v p) ↔ v ∉ a.no := by
  unfold noP
  simp only [List.mem_map, forall_exists_index, and_imp, forall_apply_eq_imp_iff₂]
  simp [CT, ofFrm, ofOpn, ofNo, sideV, less_nil]
  exact ⟨fun h hv => h v hv rfl, fun h w hw e => h (by rw [e]; exact hw)⟩
theorem noP_all_N {n : List UInt8} {a : Sp} {v : Val} (hb : lowest a.kind ≤ v.i ∧ v.i ≤ highest a.kind) (hk : ∀ w ∈ a.no, w.k = a.kind) : (∀ p ∈ noP n a, CN v p) ↔ v ∉ a.no := by
  unfold noP
  simp only [List.mem_map, forall_exists_index, and_imp, forall_apply_eq_imp_iff₂]
  constructor
  · intro h hv
    have := (h v hv).2.2
    simp [ofNo, sideV] at this
  · intro h w hw
    refine ⟨?_, ?_, ?_⟩
    · simp [ofLo, hk w hw]; exact hb.1
    · simp [ofHi, hk w hw]; exact hb.2
    · simp [ofNo, sideV]
      intro e
      exact h (by rw [e]; exact hw)
theorem loP_all (n : List UInt8) (a : Sp) (v : Val) (h : a.kind = 1) (hb : lowest a.kind ≤ v.i ∧ v.i ≤ highest a.kind) : (∀ p ∈ loP n a, CN v p) ↔ (-9223372036854775808 < a.lo → a.lo ≤ v.i) := by
  unfold loP
  rw [h] at hb ⊢
  simp [lowest, highest] at hb
  split
  · rename_i hc
    simp [CN, ofLo, ofHi, ofNo, highest, hc.2, hb.2]
  · rename_i hc
    have : ¬ -9223372036854775808 < a.lo := fun k => hc ⟨rfl, k⟩
    simp [this]
theorem hiP_all (n : List UInt8) (a : Sp) (v : Val) (h : a.kind = 1) (hb : lowest a.kind ≤ v.i ∧ v.i ≤ highest a.kind) : (∀ p ∈ hiP n a, CN v p) ↔ (a.hi < 9223372036854775807 → v.i ≤ a.hi) := by
  unfold hiP
  rw [h] at hb ⊢
  simp [lowest, highest] at hb
  split
  · rename_i hc
    simp [CN, ofLo, ofHi, ofNo, lowest, hc.2, hb.1]
  · rename_i hc
    have : ¬ a.hi < 9223372036854775807 := fun k => hc ⟨rfl, k⟩
    simp [this]
theorem preds_kind {n : List UInt8} {a : Sp} (h : Canon a) (h4 : a.kind ≠ 4) : ∀ p ∈ predsOf n a, p.k = a.kind := by
  intro p hp
  unfold predsOf at hp
  have hno : ∀ p ∈ noP n a, p.k = a.kind := by
    intro p hp
    obtain ⟨v, hv, rfl⟩ := List.mem_map.1 hp
    rcases h with rfl | rfl | h | h
    · simp [none_] at hv
    · simp [any_] at hv
    · exact (h.no v hv).1
    · exact (h.no v hv).1.trans h.kind.symm
  split at hp
  · simp at hp
  · split at hp
    · rename_i h2
      rw [h2] at hno ⊢
      split at hp
      · simp at hp; subst hp; rfl
      · rcases mem_orP hp with rfl | hp
        · rfl
        · rcases List.mem_append.1 hp with hp | hp
          · rcases List.mem_append.1 hp with hp | hp
            · unfold frmP at hp
              split at hp
              · simp at hp; subst hp; rfl
              · split at hp
                · simp at hp
                · simp at hp; subst hp; rfl
            · unfold toP at hp
              split at hp
              · simp at hp
              · split at hp
                · simp at hp; subst hp; rfl
                · simp at hp; subst hp; rfl
          · exact hno p hp
    · split at hp
      · simp at hp; subst hp; rfl
      · rcases mem_orP hp with rfl | hp
        · rfl
        · rcases List.mem_append.1 hp with hp | hp
          · rcases List.mem_append.1 hp with hp | hp
            · unfold loP at hp
              split at hp
              · rename_i hc; simp at hp; subst hp; exact hc.1.symm
              · simp at hp
            · unfold hiP at hp
              split at hp
              · rename_i hc; simp at hp; subst hp; exact hc.1.symm
              · simp at hp
          · exact hno p hp
theorem preds_ne {n : List UInt8} {a : Sp} (h0 : a.kind ≠ 0) : predsOf n a ≠ [] := by
  unfold predsOf
  rw [if_neg h0]
  split
  · simp
  · split
    · split
      · simp
      · exact orP_ne _ _
    · split
      · simp
      · exact orP_ne _ _
theorem kind_none {a : Sp} (h : Canon a) (h0 : a.kind = 0) : a = none_ := by
  rcases h with rfl | rfl | h | h
  · rfl
  · exact absurd h0 (by decide)
  · exact absurd h0 (N_not4 h).2.2
  · exact absurd h0 (T_not4 h).2
/-- A span's predicates tell it again. -/
theorem preds_all {n : List UInt8} {a : Sp} (h : Canon a) (h0 : a.kind ≠ 0) (h1 : 1 ≤ n.length) (h2 : n.length ≤ 16) : IsAll (predsOf n a) a := by
  refine ⟨h, fun v hr => ?_⟩
  have hfine := preds_fine (n := n) h h1 h2
  have hkind := preds_kind (n := n) h
  have hne := preds_ne (n := n) h0
  rcases h with rfl | rfl | h | h
  · exact absurd rfl h0
  · rw [has_any]
    simp only [predsOf, any_]
    simp only [show ¬ ((4 : Int) = 0) by decide, if_false, if_true, List.mem_singleton, forall_eq]
    have hp : rightP ⟨n, 8, 0, 0, []⟩ = true := (hfine ⟨n, 8, 0, 0, []⟩ (by simp [predsOf, any_])).1
    rw [holds_E hp rfl hr, hr]
  · obtain ⟨k1, k2, k3⟩ := N_not4 h
    rw [all_kind (k := a.kind) (C := CN v) hne (fun p hp => by
      have hk := hkind k1 p hp
      rw [holds_N (hfine p hp).1 (by rw [hk]; exact h.kind) hr, hk]; rfl), N_iff h]
    have g1 := h.low
    have g2 := h.ord
    have g3 := h.high
    constructor
    · rintro ⟨_, c1, c2, c3, c4⟩
      refine ⟨c1, ?_⟩
      have hb := num_bd hr (by rw [c1]; exact h.kind)
      rw [c1] at hb
      unfold predsOf
      rw [if_neg k3, if_neg k1, if_neg k2]
      split
      · rename_i e
        simp [CN, ofLo, ofHi, ofNo]
        omega
      · rw [orP_all (fun _ => by simp [CN, ofLo, ofHi, ofNo]; exact hb), app_all, app_all]
        refine ⟨⟨?_, ?_⟩, (noP_all_N hb (fun w hw => (h.no w hw).1)).2 c2⟩
        · rcases h.kind with hk | hk
          · exact (loP_all n a v hk hb).2 fun _ => c3
          · unfold loP; rw [hk]; simp
        · rcases h.kind with hk | hk
          · exact (hiP_all n a v hk hb).2 fun _ => c4
          · unfold hiP; rw [hk]; simp
    · rintro ⟨c1, c⟩
      have hb := num_bd hr (by rw [c1]; exact h.kind)
      rw [c1] at hb
      unfold predsOf at c
      rw [if_neg k3, if_neg k1, if_neg k2] at c
      split at c
      · rename_i e
        simp [CN, ofLo, ofHi, ofNo] at c
        exact ⟨hr, c1, fun hv => by have := h.no v hv; omega, by omega, by omega⟩
      · rename_i e
        rw [orP_all (fun _ => by simp [CN, ofLo, ofHi, ofNo]; exact hb), app_all, app_all] at c
        obtain ⟨⟨d1, d2⟩, d3⟩ := c
        refine ⟨hr, c1, (noP_all_N hb (fun w hw => (h.no w hw).1)).1 d3, ?_, ?_⟩
        · rcases h.kind with hk | hk
          · have := (loP_all n a v hk hb).1 d1
            rw [hk] at hb
            simp [lowest, highest] at hb
            rcases Int.lt_or_le (-9223372036854775808) a.lo with k | k
            · exact this k
            · omega
          · rw [hk] at hb g1 g3
            simp [lowest, highest] at hb g1 g3
            omega
        · rcases h.kind with hk | hk
          · have := (hiP_all n a v hk hb).1 d2
            rw [hk] at hb
            simp [lowest, highest] at hb
            rcases Int.lt_or_le a.hi 9223372036854775807 with k | k
            · exact this k
            · omega
          · rw [hk] at hb g1 g3
            simp [lowest, highest] at hb g1 g3
            omega
  · have hk2 := h.kind
    have k4 := (T_not4 h).1
    rw [all_kind (k := 2) (C := CT v) hne (fun p hp => by
      have hk := (hkind k4 p hp).trans hk2
      rw [holds_T (hfine p hp).1 hk hr]; rfl), T_iff h]
    have hcore : (∀ p ∈ predsOf n a, CT v p) ↔ (v ∉ a.no ∧ bytesLess v.t a.frm = false ∧ (a.opn = true ∨ bytesLess v.t a.to_ = true)) := by
      unfold predsOf
      rw [if_neg h0, if_neg k4, if_pos hk2]
      split
      · rename_i hc
        have hno : v ∉ a.no := fun hv => by
          obtain ⟨_, _, _, n4, n5⟩ := h.no v hv
          have := n5 hc.1
          rw [hc.2, next_le _ _ n4] at this
          simp at this
        simp [CT, ofFrm, ofTo, ofOpn, ofNo, hno, hc.1, hc.2]
      · rw [orP_all (fun _ => by simp [CT, ofFrm, ofOpn, ofNo, less_nil]), app_all, app_all, frmP_all, toP_all, noP_all_T]
        constructor
        · rintro ⟨⟨c1, c2⟩, c3⟩; exact ⟨c3, c1, c2⟩
        · rintro ⟨c3, c1, c2⟩; exact ⟨⟨c1, c2⟩, c3⟩
    rw [hcore]
    constructor
    · rintro ⟨_, c1, c2, c3, c4⟩; exact ⟨c1, c2, c3, c4⟩
    · rintro ⟨c1, c2, c3, c4⟩; exact ⟨hr, c1, c2, c3, c4⟩
end Spans
namespace Ev
open Go.Op (bytesLess)
/-- An attribute: its name, and its value's kind, int and text. -/
structure At where
  n : List UInt8
  k : Int
  i : Int
  t : List UInt8
instance : Inhabited At := ⟨⟨[], 0, 0, []⟩⟩
instance : DecidableEq At := fun a b => decidable_of_iff (a.n = b.n ∧ a.k = b.k ∧ a.i = b.i ∧ a.t = b.t) (by cases a; cases b; simp)
/-- May an attribute stand in an event? -/
def ok (a : At) : Bool := decide (1 ≤ a.n.length) && decide (a.n.length ≤ 16) && Vals.right a.k a.i a.t
def lt (a b : At) : Prop := bytesLess a.n b.n = true
instance (a b : At) : Decidable (lt a b) := inferInstanceAs (Decidable (_ = _))
theorem lt_trans {a b c : At} : lt a b → lt b c → lt a c := Vals.less_trans _ _ _
theorem lt_asym {a b : At} : lt a b → ¬ lt b a := fun h => by unfold lt; rw [Vals.less_asym _ _ h]; simp
theorem lt_ne {a b : At} (h : lt a b) : a.n ≠ b.n := fun e => by unfold lt at h; rw [e, Vals.less_irr] at h; simp at h
/-- Is an event right? -/
def Right (es : List At) : Prop := es.length ≤ 24 ∧ (∀ a ∈ es, ok a = true) ∧ es.Pairwise lt
instance (es : List At) : Decidable (Right es) := inferInstanceAs (Decidable (_ ∧ _ ∧ _))
/-- What stands at a place is fine, with what stands ahead of it. -/
def Fine (es : List At) (k : Nat) : Prop := ∀ (h : k < es.length), ok es[k] = true ∧ (0 < k → lt (es[k - 1]'(by omega)) es[k])
theorem pairwise_of_next : ∀ (es : List At), (∀ k (h : k + 1 < es.length), lt (es[k]'(by omega)) es[k + 1]) → es.Pairwise lt
  | [], _ => .nil
  | [_], _ => List.pairwise_singleton _ _
  | a :: b :: r, h => by
    have hb := pairwise_of_next (b :: r) (fun k hk => h (k + 1) (by simp at hk ⊢; omega))
    refine List.pairwise_cons.2 ⟨fun c hc => ?_, hb⟩
    have hab : lt a b := h 0 (by simp)
    rcases List.mem_cons.1 hc with rfl | hc
    · exact hab
    · exact lt_trans hab ((List.pairwise_cons.1 hb).1 c hc)
theorem right_iff (es : List At) : Right es ↔ es.length ≤ 24 ∧ ∀ k, Fine es k := by
  constructor
  · rintro ⟨h1, h2, h3⟩
    refine ⟨h1, fun k hk => ⟨h2 _ (List.getElem_mem hk), fun h0 => ?_⟩⟩
    exact List.pairwise_iff_getElem.1 h3 (k - 1) k (by omega) hk (by omega)
  · rintro ⟨h1, h2⟩
    refine ⟨h1, fun a ha => ?_, pairwise_of_next es fun k hk => ?_⟩
    · obtain ⟨k, hk, rfl⟩ := List.getElem_of_mem ha
      exact (h2 k hk).1
    · exact (h2 (k + 1) hk).2 (by omega)
/-- Attributes in their order. -/
def IsSort (es out : List At) : Prop := out.Perm es ∧ out.Pairwise lt
theorem IsSort.one {es out out' : List At} (h : IsSort es out) (k : IsSort es out') : out = out' :=
  (h.1.trans k.1.symm).eq_of_pairwise (fun _ _ _ _ h1 h2 => absurd h2 (lt_asym h1)) h.2 k.2
theorem IsSort.length {es out : List At} (h : IsSort es out) : out.length = es.length := h.1.length_eq
def Once (es : List At) : Prop := (es.map At.n).Nodup
instance (es : List At) : Decidable (Once es) := inferInstanceAs (Decidable (List.Nodup _))
theorem once_of_sort {es out : List At} (h : IsSort es out) : Once es := by
  unfold Once
  refine (h.1.map At.n).nodup_iff.1 ?_
  exact List.pairwise_map.2 (h.2.imp fun h => lt_ne h)
/-- The error that is told of attributes. -/
def mkE (es : List At) : Int := if 24 < es.length then 4 else if ∃ a ∈ es, ok a = false then 1 else if Once es then 0 else 8
/-- What is made of attributes. -/
def Made (es : List At) (c : Int) (out : List At) : Prop := c = mkE es ∧ (c = 0 → IsSort es out) ∧ (c ≠ 0 → out = [])
theorem Made.one {es out out' : List At} {c c' : Int} (h : Made es c out) (k : Made es c' out') : c = c' ∧ out = out' := by
  obtain ⟨h1, h2, h3⟩ := h
  obtain ⟨k1, k2, k3⟩ := k
  refine ⟨h1.trans k1.symm, ?_⟩
  by_cases hc : c = 0
  · exact (h2 hc).one (k2 (by omega))
  · rw [h3 hc, k3 (by omega)]
theorem Made.zero {es out : List At} (h : Made es 0 out) : es.length ≤ 24 ∧ (∀ a ∈ es, ok a = true) ∧ IsSort es out := by
  have h1 := h.1
  unfold mkE at h1
  by_cases c1 : 24 < es.length
  · rw [if_pos c1] at h1; omega
  · rw [if_neg c1] at h1
    by_cases c2 : ∃ a ∈ es, ok a = false
    · rw [if_pos c2] at h1; omega
    · refine ⟨by omega, fun a ha => ?_, h.2.1 rfl⟩
      cases hk : ok a
      · exact absurd ⟨a, ha, hk⟩ c2
      · rfl
theorem Made.right {es out : List At} (h : Made es 0 out) : Right out := by
  obtain ⟨h1, h2, h3⟩ := h.zero
  exact ⟨by rw [h3.length]; exact h1, fun a ha => h2 a (h3.1.mem_iff.1 ha), h3.2⟩
/-- What is looked up. -/
def find (es : List At) (s : List UInt8) : Option At := es.find? fun a => a.n == s
def got (es : List At) (s : List UInt8) : At := (find es s).getD default
theorem find_none {es : List At} {s : List UInt8} (h : ∀ a ∈ es, a.n ≠ s) : find es s = none :=
  List.find?_eq_none.2 fun a ha => by simpa using h a ha
theorem find_at {es : List At} {s : List UInt8} (k : Nat) (hk : k < es.length) (h : ∀ j (hj : j < k), (es[j]'(by omega)).n ≠ s) (hs : es[k].n = s) : find es s = some es[k] := by
  unfold find
  rw [List.find?_eq_some_iff_getElem]
  refine ⟨by simpa using hs, k, hk, rfl, fun j hj => by simpa using h j hj⟩
theorem find_once {es : List At} (h : Once es) {a : At} (ha : a ∈ es) : find es a.n = some a := by
  unfold find
  induction es with
  | nil => simp at ha
  | cons b r ih =>
    unfold Once at h ih
    rw [List.map_cons, List.nodup_cons] at h
    rcases List.mem_cons.1 ha with rfl | hr
    · simp
    · have hne : b.n ≠ a.n := fun e => h.1 (by rw [e]; exact List.mem_map_of_mem hr)
      rw [List.find?_cons]
      have : (b.n == a.n) = false := by simpa using hne
      rw [this]
      exact ih h.2 hr
/-- Few, and short. -/
def Few (es : List At) : Prop := es.length ≤ 40 ∧ ∀ a ∈ es, a.n.length ≤ 100 ∧ a.t.length ≤ 300
instance (es : List At) : Decidable (Few es) := inferInstanceAs (Decidable (_ ∧ _))
end Ev
namespace Go.Proofs.Ytnfigjggjmncdaa
open Go.RowKit
/-- A byte as a value. -/
def Bv (x : UInt8) : Value := .int .u8 (x.toNat : Int)
/-- Bytes that a slice's address leads to. -/
def Rd (w : World) (A : Option Addr) (bs : List UInt8) : Prop :=
  bs = [] ∨ ∃ g off, A = some ⟨g, off, none⟩ ∧ g < w.heap.size ∧ ∀ i (h : i < bs.length), w.cell? ⟨g, off + i, none⟩ = some (.int .u8 (bs[i].toNat : Int))
theorem Rd.at_ {w : World} {A : Option Addr} {bs : List UInt8} (h : Rd w A bs) {k : Nat} (hk : k < bs.length) :
    ∃ g off, A = some ⟨g, off, none⟩ ∧ g < w.heap.size ∧ w.cell? ⟨g, off + k, none⟩ = some (.int .u8 (bs[k].toNat : Int)) := by
  rcases h with rfl | ⟨g, off, rfl, hg, hc⟩
  · simp at hk
  · exact ⟨g, off, rfl, hg, hc k hk⟩
theorem Rd.below {w w' : World} {A : Option Addr} {bs : List UInt8} (h : Rd w A bs) (hb : Below w.heap.size w w') : Rd w' A bs := by
  rcases h with rfl | ⟨g, off, rfl, hg, hc⟩
  · exact .inl rfl
  · exact .inr ⟨g, off, rfl, Nat.lt_of_lt_of_le hg hb.size, fun i hi => (hb.cell (p := ⟨g, off + i, none⟩) hg).trans (hc i hi)⟩
theorem Rd.take {w : World} {A : Option Addr} {bs : List UInt8} (h : Rd w A bs) (k : Nat) : Rd w A (bs.take k) := by
  rcases h with rfl | ⟨g, off, rfl, hg, hc⟩
  · exact .inl (by simp)
  · exact .inr ⟨g, off, rfl, hg, fun i hi => by
      have hi' : i < bs.length := by simp at hi; omega
      rw [List.getElem_take]; exact hc i hi'⟩
/-- One block of cells, known whole. -/
def Blk (w : World) (g : Nat) (t : TypeId) (cs : Array Value) : Prop := w.heap[g]? = some (.cells cs t (0, 0))
theorem Blk.cell {w : World} {g : Nat} {t : TypeId} {cs : Array Value} (h : Blk w g t cs) (i : Nat) : w.cell? ⟨g, i, none⟩ = cs[i]? := cell_of_row w g i cs t (0, 0) h
theorem Blk.frozen {w : World} {g : Nat} {t : TypeId} {cs : Array Value} (h : Blk w g t cs) (i : Nat) : w.frozen? ⟨g, i, none⟩ = false := frozen_of_row w g i cs t h
theorem Blk.put {w : World} {g : Nat} {t : TypeId} {cs : Array Value} (h : Blk w g t cs) (i : Nat) (u : Value) : Blk (w.setCell ⟨g, i, none⟩ u) g t (cs.setIfInBounds i u) := heap_setCell_same w g i cs t u h
theorem Blk.far {w : World} {g : Nat} {t : TypeId} {cs : Array Value} (h : Blk w g t cs) {p : Addr} (hp : g ≠ p.block) (u : Value) : Blk (w.setCell p u) g t cs := (heap_setCell_other w p g u hp).trans h
theorem Blk.below {w w' : World} {B g : Nat} {t : TypeId} {cs : Array Value} (h : Blk w g t cs) (hb : Below B w w') (hg : g < B) : Blk w' g t cs := (hb.block g hg).trans h
theorem Blk.lt {w : World} {g : Nat} {t : TypeId} {cs : Array Value} (h : Blk w g t cs) : g < w.heap.size := (Array.getElem?_eq_some_iff.1 h).1
theorem Blk.new (w : World) (t : TypeId) (cs : Array Value) : Blk (w.alloc (.cells cs t)) w.heap.size t cs := heap_alloc_new w _
theorem Blk.alloc {w : World} {g : Nat} {t : TypeId} {cs : Array Value} (h : Blk w g t cs) (o : Obj) : Blk (w.alloc o) g t cs := (Below.heap_alloc w o g h.lt).trans h
theorem add_lit (g off j : Nat) : (⟨g, off, none⟩ : Addr).add j = ⟨g, off + j, none⟩ := by unfold Addr.add; split <;> simp_all
theorem Blk.src {w : World} {g : Nat} {t : TypeId} {cs : List Value} (h : Blk w g t cs.toArray) : ∀ j u, cs[j]? = some u → w.cell? ((⟨g, 0, none⟩ : Addr).add j) = some u := by
  intro j u hu
  rw [add_lit, Nat.zero_add, h.cell j]; simpa using hu
theorem Blk.rd {w : World} {g : Nat} {t : TypeId} {bs : List UInt8} (h : Blk w g t (bs.map Bv).toArray) : Rd w (some ⟨g, 0, none⟩) bs := by
  refine .inr ⟨g, 0, rfl, h.lt, fun i hi => ?_⟩
  rw [Nat.zero_add, h.cell i]; simp [hi, Bv]
theorem below_next {B : Nat} {w a b : World} (h : Below B w a) (hB : B ≤ w.heap.size) (k : Below a.heap.size a b) : Below B w b := h.trans (k.mono (Nat.le_trans hB h.size))
section
variable {P : Program} {md : Region.Mode} {ops : Array Oper} {Q : Exit → Act → World → Prop} {S : World → Prop}
/-- One operation of a region that draws its order, taken first; its place in the list and its slot written out. -/
theorem wpAnyH_yes {i d : Nat} {oi : Oper} {v : Value} {fuel : Nat} {listed : Array Bool} {a : Act} {w : World} (hi : ops.toList[i]? = some oi) (hd : oi.dst = some d)
    (hs : Region.noSelect ops = true) (hf : Region.free md ops listed i = true) (hr : (Region.ready md ops listed).contains i = true)
    (hQ : ∀ c a w, Q (.panic c) (a.put (some d) v) w → Q (.panic c) a w) (hw : Region.wanted oi (yielded ops a.tmps) = true)
    (hv : ∀ w, S w → (execOp a.eval oi).run P w = .ok (.value v) w) (hS : S w)
    (h : wpAnyH P md ops Q S fuel (listed.setIfInBounds i true) (a.put (some d) v) w) : wpAnyH P md ops Q S (fuel + 1) listed a w := by
  rw [← hd] at hQ h
  exact wpAnyH_take (by simpa using hi) hs hf hr hQ (Or.inl ⟨hw, hv⟩) hS h
/-- One operation that its guard passes over. -/
theorem wpAnyH_no {i d : Nat} {oi : Oper} {fuel : Nat} {listed : Array Bool} {a : Act} {w : World} (hi : ops.toList[i]? = some oi) (hd : oi.dst = some d)
    (hs : Region.noSelect ops = true) (hf : Region.free md ops listed i = true) (hr : (Region.ready md ops listed).contains i = true)
    (hQ : ∀ c a w, Q (.panic c) (a.put (some d) undef) w → Q (.panic c) a w) (hw : Region.wanted oi (yielded ops a.tmps) = false) (hS : S w)
    (h : wpAnyH P md ops Q S fuel (listed.setIfInBounds i true) (a.put (some d) undef) w) : wpAnyH P md ops Q S (fuel + 1) listed a w := by
  rw [← hd] at hQ h
  exact wpAnyH_take (by simpa using hi) hs hf hr hQ (Or.inr ⟨hw, rfl⟩) hS h
/-- The only operation that may come up, carried out: S is shown anew behind it. -/
theorem wpAnyH_one {i : Nat} {oi : Oper} {fuel : Nat} {listed : Array Bool} {a : Act} {w : World} (hr : Region.ready md ops listed = [i]) (hi : ops.toList[i]? = some oi)
    (hw : Region.wanted oi (yielded ops a.tmps) = true)
    (h : ∀ K : Act → World → Prop, Hid (∀ a w, S w → wpAnyH P md ops Q S fuel (listed.setIfInBounds i true) a w → K a w) → Oper.wp P oi a w K Q) : wpAnyH P md ops Q S (fuel + 1) listed a w := by
  refine wpAnyH_ready hr (by simp) (AllReadyH.cons (by simpa using hi) (fun K hK => ?_) AllReadyH.nil)
  rw [if_pos hw]
  exact h K (fun a w hS hW => hK.out a w hS (fun _ => hW))
theorem zu0 {α : Type} (l : List α) (i : Nat) (a : α) : l.toArray.setIfInBounds i a = (l.set i a).toArray := List.setIfInBounds_toArray ..
theorem zu1 {α : Type} (x : α) (l : List α) (a : α) : (x :: l).set 0 a = a :: l := List.set_cons_zero
theorem zu2 {α : Type} (x : α) (l : List α) (n : Nat) (a : α) : (x :: l).set (n + 1) a = x :: l.set n a := List.set_cons_succ
/-- An operation of a drawn region that is taken first: what it tells, and what lies behind, found by the line itself. -/
theorem Jz (i : Nat) {d : Nat} {oi : Oper} {v : Value} {fuel : Nat} {listed : Array Bool} {a a' : Act} {w : World} (hS : S w)
    (h : wpAnyH P md ops Q S fuel (listed.setIfInBounds i true) a' w) (hi : ops.toList[i]? = some oi := by rfl) (hd : oi.dst = some d := by rfl)
    (hv : ∀ w, S w → (execOp a.eval oi).run P w = .ok (.value v) w := by intro w' hSw; first | (clear hSw; go_simp <;> with_reducible rfl; done) | (subst hSw; go_simp <;> with_reducible rfl; done) | (have h7 := blk7 hSw; obtain ⟨_, _, _, _, _, _, _, _⟩ := h7; clear hSw; go_simp <;> with_reducible rfl; done) | (have h5 := blk5 hSw; obtain ⟨_, _, _, _, _, _⟩ := h5; clear hSw; go_simp <;> with_reducible rfl; done) | (have h7 := blk7 hSw.1; have h8 := blk7 hSw.2; obtain ⟨_, _, _, _, _, _, _, _⟩ := h7; obtain ⟨_, _, _, _, _, _, _, _⟩ := h8; clear hSw; go_simp <;> with_reducible rfl; done) | (have h5 := blk5 hSw.1; have h7 := blk7 hSw.2; obtain ⟨_, _, _, _, _, _⟩ := h5; obtain ⟨_, _, _, _, _, _, _, _⟩ := h7; clear hSw; go_simp <;> with_reducible rfl; done) | (repeat (rcases hSw with ⟨_, hSw⟩); go_simp <;> with_reducible rfl; done) | (go_simp <;> with_reducible rfl))
    (ha : a.put (some d) v = a' := by simp only [Act.put, zu0, zu1, zu2]; rfl)
    (hs : (Region.noSelect ops && Region.free md ops listed i && (Region.ready md ops listed).contains i) = true := by kernel_rfl)
    (hQ : ∀ c a w, Q (.panic c) (a.put (some d) v) w → Q (.panic c) a w := by exact fun _ _ _ h => h) (hw : Region.wanted oi (yielded ops a.tmps) = true := by rfl) : wpAnyH P md ops Q S (fuel + 1) listed a w := by
  rw [Bool.and_eq_true, Bool.and_eq_true] at hs
  subst ha
  exact wpAnyH_yes hi hd hs.1.1 hs.1.2 hs.2 hQ hw hv hS h
theorem Jw (i : Nat) {d : Nat} {oi : Oper} {fuel : Nat} {listed : Array Bool} {a a' : Act} {w : World} (hS : S w) (h : wpAnyH P md ops Q S fuel (listed.setIfInBounds i true) a' w) (hi : ops.toList[i]? = some oi := by rfl) (hd : oi.dst = some d := by rfl)
    (ha : a.put (some d) undef = a' := by simp only [Act.put, zu0, zu1, zu2]; rfl)
    (hs : (Region.noSelect ops && Region.free md ops listed i && (Region.ready md ops listed).contains i) = true := by kernel_rfl)
    (hQ : ∀ c a w, Q (.panic c) (a.put (some d) undef) w → Q (.panic c) a w := by exact fun _ _ _ h => h) (hw : Region.wanted oi (yielded ops a.tmps) = false := by rfl) : wpAnyH P md ops Q S (fuel + 1) listed a w := by
  rw [Bool.and_eq_true, Bool.and_eq_true] at hs
  subst ha
  exact wpAnyH_no hi hd hs.1.1 hs.1.2 hs.2 hQ hw hS h
theorem Jd {fuel : Nat} {listed : Array Bool} {a : Act} {w : World} (h : Q .normal a w) (hr : Region.ready md ops listed = [] := by kernel_rfl) : wpAnyH P md ops Q S fuel listed a w := wpAnyH_done hr h fuel
theorem Je (i : Nat) {oi : Oper} {fuel : Nat} {listed : Array Bool} {a : Act} {w : World} (h : ∀ K : Act → World → Prop, Hid (∀ a w, S w → wpAnyH P md ops Q S fuel (listed.setIfInBounds i true) a w → K a w) → Oper.wp P oi a w K Q)
    (hr : Region.ready md ops listed = [i] := by kernel_rfl) (hi : ops.toList[i]? = some oi := by rfl) (hw : Region.wanted oi (yielded ops a.tmps) = true := by rfl) : wpAnyH P md ops Q S (fuel + 1) listed a w := wpAnyH_one hr hi hw h
end
/-- A row that is filled place by place. -/
theorem fill_step (L Z : List Value) (k : Nat) (v : Value) (hk : k < L.length) (hl : L.length = Z.length) (hv : L[k]? = some v) :
    ((L.take k ++ Z.drop k).toArray).setIfInBounds k v = (L.take (k + 1) ++ Z.drop (k + 1)).toArray := by
  have hk2 : k < Z.length := by omega
  rw [List.setIfInBounds_toArray]
  congr 1
  rw [List.set_append, if_neg (by simp; omega), List.length_take, Nat.min_eq_left (by omega), Nat.sub_self]
  rw [List.drop_eq_getElem_cons hk2, List.set_cons_zero, List.take_succ_eq_append_getElem hk]
  have : L[k] = v := by rw [List.getElem?_eq_getElem hk] at hv; exact Option.some.inj hv
  simp [this]
theorem Rd.src {w : World} {A : Option Addr} {bs : List UInt8} (h : Rd w A bs) (h0 : 0 < bs.length) :
    ∃ ad, A = some ad ∧ ad.block < w.heap.size ∧ ∀ j v, (bs.map Bv)[j]? = some v → w.cell? (ad.add j) = some v := by
  rcases h with rfl | ⟨g, off, rfl, hg, hc⟩
  · simp at h0
  · refine ⟨_, rfl, hg, fun j v hv => ?_⟩
    have hj : j < bs.length := by
      have := (List.getElem?_eq_some_iff.1 hv).1; simpa using this
    have e : (⟨g, off, none⟩ : Addr).add j = ⟨g, off + j, none⟩ := by unfold Addr.add; split <;> simp_all
    rw [e, hc j hj]
    simp [hj, Bv] at hv
    rw [← hv]
/-- A slice of bytes that the call itself made. -/
def Own (w : World) (base : Nat) (e : TypeId) (v : Value) (bs : List UInt8) : Prop := w.ownsRow base e 1 v bs.length (bs.map Bv)
theorem Own.rd {w : World} {base : Nat} {e : TypeId} {v : Value} {bs : List UInt8} (h : Own w base e v bs) : ∃ A c, v = .slice A bs.length c ∧ bs.length ≤ c ∧ Rd w A bs := by
  rcases h.2 with ⟨rfl, hn⟩ | ⟨g, cap, cur, rfl, _, hg, hc, _, _, ht⟩
  · have : bs = [] := List.eq_nil_of_length_eq_zero hn
    subst this
    exact ⟨none, 0, rfl, by simp, .inl rfl⟩
  · refine ⟨_, cap, rfl, hc, .inr ⟨g, 0, rfl, (Array.getElem?_eq_some_iff.1 hg).1, fun i hi => ?_⟩⟩
    rw [Nat.zero_add, cell_of_row w g i cur e (0, 0) hg]
    have h1 : (cur.toList.take (bs.length * 1))[i]? = (bs.map Bv)[i]? := by rw [ht]
    rw [List.getElem?_take_of_lt (by omega)] at h1
    simpa [hi, Bv] using h1
theorem Own.base_le {w : World} {base : Nat} {e : TypeId} {v : Value} {bs : List UInt8} (h : Own w base e v bs) : ∀ k, v.ownBlock = some k → base ≤ k := fun k hk => (h.lt k hk).1
theorem Own.none_ (w : World) (base : Nat) (e : TypeId) : Own w base e (.slice none 0 0) [] := World.ownsRow_nil w base e 1
/-- '[]byte{}' -/
theorem Own.empty (w : World) (base : Nat) (e : TypeId) (hb : base ≤ w.heap.size) : Own (w.alloc (.cells #[] e)) base e (.slice (some ⟨w.heap.size, 0, none⟩) 0 0) [] :=
  ⟨by simp, .inr ⟨w.heap.size, 0, #[], rfl, hb, heap_alloc_new _ _, by simp, by simp, by simp, by simp⟩⟩
theorem Own.below {w w' : World} {base : Nat} {e : TypeId} {v : Value} {bs : List UInt8} (h : Own w base e v bs) (hb : Below w.heap.size w w') : Own w' base e v bs := by
  refine ⟨h.1, ?_⟩
  rcases h.2 with h2 | ⟨g, cap, cur, hv, hbg, hg, r⟩
  · exact .inl h2
  · exact .inr ⟨g, cap, cur, hv, hbg, (hb.block g (Array.getElem?_eq_some_iff.1 hg).1).trans hg, r⟩
theorem ret_int {k : IntKind} {a b : Int} (h : a = b) : Ending.returned (.int k a) = .returned (.int k b) := by rw [h]
/-- Only block g may have turned, and new blocks may be there. -/
def Touch (g : Nat) (w w' : World) : Prop := w.grownBy w' (some g)
theorem Touch.refl (g : Nat) (w : World) : Touch g w w := World.grownBy.refl w _
theorem Touch.trans {g : Nat} {a b c : World} (h : Touch g a b) (k : Touch g b c) : Touch g a c := World.grownBy.trans h k
theorem Touch.set_ {g : Nat} {a w : World} (h : Touch g a w) (i : Nat) (v : Value) : Touch g a (w.setCell ⟨g, i, none⟩ v) :=
  h.trans ⟨rfl, rfl, rfl, by simp [World.setCell], fun k _ hk => Below.heap_setCell w ⟨g, i, none⟩ v k (fun e => hk (by rw [e]))⟩
theorem Touch.below {g B : Nat} {w0 w w' : World} (h : Touch g w w') (hb : Below B w0 w) (hB : B ≤ w.heap.size) (hg : B ≤ g) : Below B w0 w' :=
  hb.grown h hB (fun k hk => by cases hk; exact hg)
theorem Touch.size {g : Nat} {w w' : World} (h : Touch g w w') : w.heap.size ≤ w'.heap.size := World.grownBy.size h
theorem Touch.blk {g g' : Nat} {w w' : World} {t : TypeId} {cs : Array Value} (h : Touch g w w') (hB : Blk w g' t cs) (hne : g' ≠ g) : Blk w' g' t cs :=
  (World.grownBy.block h g' hB.lt (fun e => hne (by cases e; rfl))).trans hB
/-- Bytes that do not lie in block g are read as before. -/
theorem Touch.rd {g : Nat} {w w' : World} {A : Option Addr} {bs : List UInt8} (h : Touch g w w') (hr : Rd w A bs) (hne : ∀ off, A ≠ some ⟨g, off, none⟩ ∨ bs = []) : Rd w' A bs := by
  rcases hr with rfl | ⟨g', off, rfl, hg, hc⟩
  · exact .inl rfl
  · rcases hne off with hn | rfl
    · refine .inr ⟨g', off, rfl, Nat.lt_of_lt_of_le hg h.size, fun i hi => ?_⟩
      have e := World.grownBy.block h g' hg (fun e => hn (by cases e; rfl))
      exact (World.cell?_of_block (a := ⟨g', off + i, none⟩) e).trans (hc i hi)
    · exact .inl rfl
/-- What the walk asks of a scan's block. -/
theorem blk2 {w : World} {g : Nat} {t : TypeId} {a b : Value} (hB : Blk w g t #[a, b]) :
    w.cell? ⟨g, 0, none⟩ = some a ∧ w.cell? ⟨g, 1, none⟩ = some b ∧ w.frozen? ⟨g, 0, none⟩ = false ∧ w.frozen? ⟨g, 1, none⟩ = false :=
  ⟨hB.cell 0, hB.cell 1, hB.frozen 0, hB.frozen 1⟩
theorem Rd.drewN {w : World} {A : Option Addr} {bs : List UInt8} (h : Rd w A bs) (n : Nat) : Rd (w.drewN n) A bs := h
section
variable {P : Program} {md : Region.Mode} {ops : Array Oper} {Q : Exit → Act → World → Prop} {S : World → Prop}
end
end Go.Proofs.Ytnfigjggjmncdaa
namespace Go.Proofs.Ytnfigjggjmncdaa
open Go.RowKit
theorem blk3 {w : World} {g : Nat} {t : TypeId} {a b c : Value} (hB : Blk w g t #[a, b, c]) :
    w.cell? ⟨g, 0, none⟩ = some a ∧ w.cell? ⟨g, 1, none⟩ = some b ∧ w.cell? ⟨g, 2, none⟩ = some c ∧ w.frozen? ⟨g, 0, none⟩ = false ∧ w.frozen? ⟨g, 1, none⟩ = false ∧ w.frozen? ⟨g, 2, none⟩ = false :=
  ⟨hB.cell 0, hB.cell 1, hB.cell 2, hB.frozen 0, hB.frozen 1, hB.frozen 2⟩
theorem eqGuardV : Try.prog.eqGuardType Try.prog.depth 45 = false := by kernel_rfl
set_option maxRecDepth 100000 in
theorem right_at (k i : Int) (t : List UInt8) (w : World) (hl : t.length ≤ 9223372036854775807) :
    Calls Try.prog 23 #[.agg #[.int .i64 k, .int .i64 i, .string ⟨t.toArray⟩]] w fun e w' => e = .returned (.bool (Vals.right k i t)) ∧ Below w.heap.size w w' := by
  go_enter Try.func23, Try.ntmps23
  go_wp2
  all_goals (go_ret; refine ⟨congrArg (fun b => Ending.returned (Value.bool b)) ?_, (Below.refl _ _).alloc (Nat.le_refl _) _⟩)
  all_goals (simp_all [Vals.right])
  · cases t <;> rfl
  all_goals omega
set_option maxRecDepth 100000 in
theorem refRight_at (k i : Int) (t : List UInt8) (w : World) (hl : t.length ≤ 9223372036854775807) :
    Calls Try.prog 34 #[.agg #[.int .i64 k, .int .i64 i, .string ⟨t.toArray⟩]] w fun e w' => e = .returned (.bool (Vals.right k i t)) ∧ Below w.heap.size w w' := by
  go_enter Try.func34, Try.ntmps34
  go_wp2
  all_goals (go_ret; refine ⟨congrArg (fun b => Ending.returned (Value.bool b)) ?_, (Below.refl _ _).alloc (Nat.le_refl _) _⟩)
  all_goals (simp_all [Vals.right])
  · cases t <;> rfl
  all_goals omega
end Go.Proofs.Ytnfigjggjmncdaa
namespace Go.Proofs.Ytnfigjggjmncdaa
open Go.RowKit
theorem right_is (k i : Int) (t : List UInt8) (w : World) (hl : t.length ≤ 9223372036854775807) (b : Bool) (hb : Vals.right k i t = b) :
    Calls Try.prog 23 #[.agg #[.int .i64 k, .int .i64 i, .string ⟨t.toArray⟩]] w fun e w' => e = .returned (.bool b) ∧ Below w.heap.size w w' := by
  subst hb; exact right_at k i t w hl
theorem refRight_is (k i : Int) (t : List UInt8) (w : World) (hl : t.length ≤ 9223372036854775807) (b : Bool) (hb : Vals.right k i t = b) :
    Calls Try.prog 34 #[.agg #[.int .i64 k, .int .i64 i, .string ⟨t.toArray⟩]] w fun e w' => e = .returned (.bool b) ∧ Below w.heap.size w w' := by
  subst hb; exact refRight_at k i t w hl
theorem box3 (w : World) (t : TypeId) (a b c : Value) : Blk (w.alloc (.cells #[a, b, c] t)) w.heap.size t #[a, b, c] ∧ Below w.heap.size w (w.alloc (.cells #[a, b, c] t)) :=
  ⟨Blk.new w _ _, (Below.refl _ _).alloc (Nat.le_refl _) _⟩
end Go.Proofs.Ytnfigjggjmncdaa
namespace Go.Proofs.Ytnfigjggjmncdaa
open Go.RowKit
theorem ret_b {a b : Bool} (h : a = b) : Ending.returned (.bool a) = .returned (.bool b) := by rw [h]
theorem blk5 {w : World} {g : Nat} {t : TypeId} {a b c d e : Value} (hB : Blk w g t #[a, b, c, d, e]) :
    w.cell? ⟨g, 0, none⟩ = some a ∧ w.cell? ⟨g, 1, none⟩ = some b ∧ w.cell? ⟨g, 2, none⟩ = some c ∧ w.cell? ⟨g, 3, none⟩ = some d ∧ w.cell? ⟨g, 4, none⟩ = some e ∧
      w.frozen? ⟨g, 0, none⟩ = false ∧ w.frozen? ⟨g, 1, none⟩ = false ∧ w.frozen? ⟨g, 2, none⟩ = false ∧ w.frozen? ⟨g, 3, none⟩ = false ∧ w.frozen? ⟨g, 4, none⟩ = false :=
  ⟨hB.cell 0, hB.cell 1, hB.cell 2, hB.cell 3, hB.cell 4, hB.frozen 0, hB.frozen 1, hB.frozen 2, hB.frozen 3, hB.frozen 4⟩
theorem box5 (w : World) (t : TypeId) (a b c d e : Value) : Blk (w.alloc (.cells #[a, b, c, d, e] t)) w.heap.size t #[a, b, c, d, e] ∧ Below w.heap.size w (w.alloc (.cells #[a, b, c, d, e] t)) :=
  ⟨Blk.new w _ _, (Below.refl _ _).alloc (Nat.le_refl _) _⟩
set_option maxRecDepth 100000 in
theorem side_at (k i : Int) (t : List UInt8) (w : World) (hl : t.length ≤ 9223372036854775807) :
    Calls Try.prog 36 #[.agg #[.int .i64 k, .int .i64 i, .string ⟨t.toArray⟩]] w fun e w' => e = .returned (.bool (Preds.side k i t)) ∧ Below w.heap.size w w' := by
  obtain ⟨hB, hb0⟩ := box3 w 45 (.int .i64 k) (.int .i64 i) (.string ⟨t.toArray⟩)
  have HE : Hid (Preds.side k i t = (Vals.right k i t && decide (t.length ≤ 32))) := rfl
  go_enter Try.func36, Try.ntmps36
  go_wp2_with fail
  generalize w.alloc (.cells #[.int .i64 k, .int .i64 i, .string ⟨t.toArray⟩] 45) = w0 at *
  refine (right_at k i t w0 hl).mono ?_
  rintro e w1 ⟨rfl, hb1⟩
  obtain ⟨c0, c1, c2, _, _, _⟩ := blk3 (hB.below hb1 hB.lt)
  have hbw := below_next hb0 (Nat.le_refl _) hb1
  clear hB hb0 hb1
  cases hr : Vals.right k i t with
  | false =>
    have HF : Hid (Preds.side k i t = false) := by show _ = _; rw [HE.out, hr]; rfl
    clear hr HE
    go_wp2_with fail
    go_ret
    exact ⟨ret_b HF.out.symm, hbw⟩
  | true =>
    have HF : Hid (Preds.side k i t = decide ((t.length : Int) ≤ 32)) := by show _ = _; rw [HE.out, hr]; simp; omega
    clear hr HE
    go_wp2_with fail
    go_ret
    exact ⟨ret_b HF.out.symm, hbw⟩
theorem side_is (k i : Int) (t : List UInt8) (b : Bool) (hb : Preds.side k i t = b) (w : World) (hl : t.length ≤ 9223372036854775807) :
    Calls Try.prog 36 #[.agg #[.int .i64 k, .int .i64 i, .string ⟨t.toArray⟩]] w fun e w' => e = .returned (.bool b) ∧ Below w.heap.size w w' := by
  subst hb; exact side_at k i t w hl
set_option maxRecDepth 100000 in
set_option maxHeartbeats 1600000 in
theorem pright_name (n : List UInt8) (o k i : Int) (t : List UInt8) (w : World) (hn : n.length ≤ 9223372036854775807) (_hl : t.length ≤ 9223372036854775807) (h : n.length < 1 ∨ 16 < n.length) : Calls Try.prog 29 #[.agg #[.string ⟨n.toArray⟩, .int .i64 o, .int .i64 k, .int .i64 i, .string ⟨t.toArray⟩]] w fun e w' => e = .returned (.bool (Preds.right n o k i t)) ∧ Below w.heap.size w w' := by
  obtain ⟨hB, hb0⟩ := box5 w 47 (.string ⟨n.toArray⟩) (.int .i64 o) (.int .i64 k) (.int .i64 i) (.string ⟨t.toArray⟩)
  have HF : Hid (Preds.right n o k i t = false) := by
    show _ = _
    unfold Preds.right
    rcases h with h | h
    · rw [decide_eq_false (by omega : ¬ 1 ≤ n.length)]; rfl
    · rw [decide_eq_false (by omega : ¬ n.length ≤ 16)]; simp
  by_cases h1 : n.length < 1
  · have d1 : decide ((n.length : Int) < 1) = true := by simp; omega
    clear h h1
    go_enter Try.func29, Try.ntmps29
    go_wp2_with fail
    go_ret
    exact ⟨ret_b HF.out.symm, hb0⟩
  · have d1 : decide ((n.length : Int) < 1) = false := by simp; omega
    have d2 : decide ((16 : Int) < (n.length : Int)) = true := by simp; omega
    clear h h1
    go_enter Try.func29, Try.ntmps29
    go_wp2_with fail
    go_ret
    exact ⟨ret_b HF.out.symm, hb0⟩
set_option maxRecDepth 100000 in
set_option maxHeartbeats 1600000 in
theorem pright_exists (n : List UInt8) (k i : Int) (t : List UInt8) (w : World) (hn : n.length ≤ 9223372036854775807) (_hl : t.length ≤ 9223372036854775807) (h1 : 1 ≤ n.length) (h2 : n.length ≤ 16) : Calls Try.prog 29 #[.agg #[.string ⟨n.toArray⟩, .int .i64 8, .int .i64 k, .int .i64 i, .string ⟨t.toArray⟩]] w fun e w' => e = .returned (.bool (Preds.right n 8 k i t)) ∧ Below w.heap.size w w' := by
  obtain ⟨hB, hb0⟩ := box5 w 47 (.string ⟨n.toArray⟩) (.int .i64 8) (.int .i64 k) (.int .i64 i) (.string ⟨t.toArray⟩)
  have d1 : decide ((n.length : Int) < 1) = false := by simp; omega
  have d2 : decide ((16 : Int) < (n.length : Int)) = false := by simp; omega
  have HF : Hid (Preds.right n 8 k i t = decide (k = 0 ∧ i = 0 ∧ t = [])) := by
    show _ = _
    unfold Preds.right Preds.asks
    simp [h1, h2]
  clear h1 h2
  have hG := eqGuardV
  go_enter Try.func29, Try.ntmps29
  by_cases a0 : k = 0
  · subst a0
    by_cases a1 : i = 0
    · subst a1
      by_cases a2 : t = []
      · subst a2
        go_wp2_with fail
        go_ret
        exact ⟨ret_b (by rw [HF.out]; simp), hb0⟩
      · have e2 : (t == []) = false := by simpa using a2
        have HF2 : Hid (Preds.right n 8 0 0 t = false) := by show _ = _; rw [HF.out]; simp [a2]
        clear a2 HF
        go_wp2_with fail
        all_goals (go_ret; exact ⟨ret_b HF2.out.symm, hb0⟩)
    · have e1 : (i == 0) = false := by simpa using a1
      have HF2 : Hid (Preds.right n 8 0 i t = false) := by show _ = _; rw [HF.out]; simp [a1]
      clear a1 HF
      go_wp2_with fail
      all_goals (go_ret; exact ⟨ret_b HF2.out.symm, hb0⟩)
  · have e0 : (k == 0) = false := by simpa using a0
    have HF2 : Hid (Preds.right n 8 k i t = false) := by show _ = _; rw [HF.out]; simp [a0]
    clear a0 HF
    go_wp2_with fail
    all_goals (go_ret; exact ⟨ret_b HF2.out.symm, hb0⟩)
set_option maxRecDepth 100000 in
set_option maxHeartbeats 1600000 in
theorem pright_ord (n : List UInt8) (o k i : Int) (t : List UInt8) (w : World) (hn : n.length ≤ 9223372036854775807) (hl : t.length ≤ 9223372036854775807) (h1 : 1 ≤ n.length) (h2 : n.length ≤ 16) (ho : 1 ≤ o) (ho2 : o ≤ 6) : Calls Try.prog 29 #[.agg #[.string ⟨n.toArray⟩, .int .i64 o, .int .i64 k, .int .i64 i, .string ⟨t.toArray⟩]] w fun e w' => e = .returned (.bool (Preds.right n o k i t)) ∧ Below w.heap.size w w' := by
  have d1 : decide ((n.length : Int) < 1) = false := by simp; omega
  have d2 : decide ((16 : Int) < (n.length : Int)) = false := by simp; omega
  have HF : Hid (Preds.right n o k i t = Preds.side k i t) := by
    show _ = _
    unfold Preds.right Preds.asks
    rw [if_neg (by omega), if_neg (by omega)]
    simp [h1, h2, ho, ho2]
  clear h1 h2
  have h6 : o = 1 ∨ o = 2 ∨ o = 3 ∨ o = 4 ∨ o = 5 ∨ o = 6 := by omega
  clear ho ho2
  rcases h6 with rfl | rfl | rfl | rfl | rfl | rfl
  · obtain ⟨hB, hb0⟩ := box5 w 47 (.string ⟨n.toArray⟩) (.int .i64 1) (.int .i64 k) (.int .i64 i) (.string ⟨t.toArray⟩)
    go_enter Try.func29, Try.ntmps29
    go_wp2_with fail
    generalize w.alloc (.cells #[.string ⟨n.toArray⟩, .int .i64 1, .int .i64 k, .int .i64 i, .string ⟨t.toArray⟩] 47) = w0 at *
    refine (side_at k i t w0 hl).mono ?_
    rintro e w1 ⟨rfl, hb1⟩
    have hbw := below_next hb0 (Nat.le_refl _) hb1
    clear hB hb0 hb1
    go_wp2_with fail
    go_ret
    exact ⟨ret_b HF.out.symm, hbw⟩
  · obtain ⟨hB, hb0⟩ := box5 w 47 (.string ⟨n.toArray⟩) (.int .i64 2) (.int .i64 k) (.int .i64 i) (.string ⟨t.toArray⟩)
    go_enter Try.func29, Try.ntmps29
    go_wp2_with fail
    generalize w.alloc (.cells #[.string ⟨n.toArray⟩, .int .i64 2, .int .i64 k, .int .i64 i, .string ⟨t.toArray⟩] 47) = w0 at *
    refine (side_at k i t w0 hl).mono ?_
    rintro e w1 ⟨rfl, hb1⟩
    have hbw := below_next hb0 (Nat.le_refl _) hb1
    clear hB hb0 hb1
    go_wp2_with fail
    go_ret
    exact ⟨ret_b HF.out.symm, hbw⟩
  · obtain ⟨hB, hb0⟩ := box5 w 47 (.string ⟨n.toArray⟩) (.int .i64 3) (.int .i64 k) (.int .i64 i) (.string ⟨t.toArray⟩)
    go_enter Try.func29, Try.ntmps29
    go_wp2_with fail
    generalize w.alloc (.cells #[.string ⟨n.toArray⟩, .int .i64 3, .int .i64 k, .int .i64 i, .string ⟨t.toArray⟩] 47) = w0 at *
    refine (side_at k i t w0 hl).mono ?_
    rintro e w1 ⟨rfl, hb1⟩
    have hbw := below_next hb0 (Nat.le_refl _) hb1
    clear hB hb0 hb1
    go_wp2_with fail
    go_ret
    exact ⟨ret_b HF.out.symm, hbw⟩
  · obtain ⟨hB, hb0⟩ := box5 w 47 (.string ⟨n.toArray⟩) (.int .i64 4) (.int .i64 k) (.int .i64 i) (.string ⟨t.toArray⟩)
    go_enter Try.func29, Try.ntmps29
    go_wp2_with fail
    generalize w.alloc (.cells #[.string ⟨n.toArray⟩, .int .i64 4, .int .i64 k, .int .i64 i, .string ⟨t.toArray⟩] 47) = w0 at *
    refine (side_at k i t w0 hl).mono ?_
    rintro e w1 ⟨rfl, hb1⟩
    have hbw := below_next hb0 (Nat.le_refl _) hb1
    clear hB hb0 hb1
    go_wp2_with fail
    go_ret
    exact ⟨ret_b HF.out.symm, hbw⟩
  · obtain ⟨hB, hb0⟩ := box5 w 47 (.string ⟨n.toArray⟩) (.int .i64 5) (.int .i64 k) (.int .i64 i) (.string ⟨t.toArray⟩)
    go_enter Try.func29, Try.ntmps29
    go_wp2_with fail
    generalize w.alloc (.cells #[.string ⟨n.toArray⟩, .int .i64 5, .int .i64 k, .int .i64 i, .string ⟨t.toArray⟩] 47) = w0 at *
    refine (side_at k i t w0 hl).mono ?_
    rintro e w1 ⟨rfl, hb1⟩
    have hbw := below_next hb0 (Nat.le_refl _) hb1
    clear hB hb0 hb1
    go_wp2_with fail
    go_ret
    exact ⟨ret_b HF.out.symm, hbw⟩
  · obtain ⟨hB, hb0⟩ := box5 w 47 (.string ⟨n.toArray⟩) (.int .i64 6) (.int .i64 k) (.int .i64 i) (.string ⟨t.toArray⟩)
    go_enter Try.func29, Try.ntmps29
    go_wp2_with fail
    generalize w.alloc (.cells #[.string ⟨n.toArray⟩, .int .i64 6, .int .i64 k, .int .i64 i, .string ⟨t.toArray⟩] 47) = w0 at *
    refine (side_at k i t w0 hl).mono ?_
    rintro e w1 ⟨rfl, hb1⟩
    have hbw := below_next hb0 (Nat.le_refl _) hb1
    clear hB hb0 hb1
    go_wp2_with fail
    go_ret
    exact ⟨ret_b HF.out.symm, hbw⟩
set_option maxRecDepth 100000 in
set_option maxHeartbeats 1600000 in
theorem pright_pre (n : List UInt8) (k i : Int) (t : List UInt8) (w : World) (hn : n.length ≤ 9223372036854775807) (hl : t.length ≤ 9223372036854775807) (h1 : 1 ≤ n.length) (h2 : n.length ≤ 16) : Calls Try.prog 29 #[.agg #[.string ⟨n.toArray⟩, .int .i64 7, .int .i64 k, .int .i64 i, .string ⟨t.toArray⟩]] w fun e w' => e = .returned (.bool (Preds.right n 7 k i t)) ∧ Below w.heap.size w w' := by
  obtain ⟨hB, hb0⟩ := box5 w 47 (.string ⟨n.toArray⟩) (.int .i64 7) (.int .i64 k) (.int .i64 i) (.string ⟨t.toArray⟩)
  have d1 : decide ((n.length : Int) < 1) = false := by simp; omega
  have d2 : decide ((16 : Int) < (n.length : Int)) = false := by simp; omega
  have HF : Hid (Preds.right n 7 k i t = (Preds.side k i t && decide (k = 2))) := by
    show _ = _
    unfold Preds.right Preds.asks
    simp [h1, h2]
  clear h1 h2
  go_enter Try.func29, Try.ntmps29
  go_wp2_with fail
  generalize w.alloc (.cells #[.string ⟨n.toArray⟩, .int .i64 7, .int .i64 k, .int .i64 i, .string ⟨t.toArray⟩] 47) = w0 at *
  cases hs : Preds.side k i t with
  | false =>
    have HF2 : Hid (Preds.right n 7 k i t = false) := by show _ = _; rw [HF.out, hs]; rfl
    refine (side_is k i t false hs w0 hl).mono ?_
    rintro e w1 ⟨rfl, hb1⟩
    have hbw := below_next hb0 (Nat.le_refl _) hb1
    clear hB hb0 hb1 hs HF
    go_wp2_with fail
    go_ret
    exact ⟨ret_b HF2.out.symm, hbw⟩
  | true =>
    have HF2 : Hid (Preds.right n 7 k i t = (k == 2)) := by show _ = _; rw [HF.out, hs]; simp; by_cases h : k = 2 <;> simp [h]
    refine (side_is k i t true hs w0 hl).mono ?_
    rintro e w1 ⟨rfl, hb1⟩
    obtain ⟨c0, c1, c2, c3, c4, _, _, _, _, _⟩ := blk5 (hB.below hb1 hB.lt)
    have hbw := below_next hb0 (Nat.le_refl _) hb1
    clear hB hb0 hb1 hs HF
    go_wp2_with fail
    go_ret
    exact ⟨ret_b HF2.out.symm, hbw⟩
set_option maxRecDepth 100000 in
set_option maxHeartbeats 1600000 in
theorem pright_none (n : List UInt8) (o k i : Int) (t : List UInt8) (w : World) (hn : n.length ≤ 9223372036854775807) (_hl : t.length ≤ 9223372036854775807) (h1 : 1 ≤ n.length) (h2 : n.length ≤ 16) (ho : o < 1 ∨ 8 < o) : Calls Try.prog 29 #[.agg #[.string ⟨n.toArray⟩, .int .i64 o, .int .i64 k, .int .i64 i, .string ⟨t.toArray⟩]] w fun e w' => e = .returned (.bool (Preds.right n o k i t)) ∧ Below w.heap.size w w' := by
  obtain ⟨hB, hb0⟩ := box5 w 47 (.string ⟨n.toArray⟩) (.int .i64 o) (.int .i64 k) (.int .i64 i) (.string ⟨t.toArray⟩)
  have d1 : decide ((n.length : Int) < 1) = false := by simp; omega
  have d2 : decide ((16 : Int) < (n.length : Int)) = false := by simp; omega
  have HF : Hid (Preds.right n o k i t = false) := by
    show _ = _
    unfold Preds.right Preds.asks
    rw [if_neg (by omega), if_neg (by omega)]
    rcases ho with ho | ho
    · rw [decide_eq_false (by omega : ¬ 1 ≤ o)]; simp
    · rw [decide_eq_false (by omega : ¬ o ≤ 6)]; simp
  have e1 : (o == 1) = false := by simp; omega
  have e2 : (o == 2) = false := by simp; omega
  have e3 : (o == 3) = false := by simp; omega
  have e4 : (o == 4) = false := by simp; omega
  have e5 : (o == 5) = false := by simp; omega
  have e6 : (o == 6) = false := by simp; omega
  have e7 : (o == 7) = false := by simp; omega
  have e8 : (o == 8) = false := by simp; omega
  clear h1 h2 ho
  go_enter Try.func29, Try.ntmps29
  go_wp2_with fail
  go_ret
  exact ⟨ret_b HF.out.symm, hb0⟩
theorem pright_at (n : List UInt8) (o k i : Int) (t : List UInt8) (w : World) (hn : n.length ≤ 9223372036854775807) (hl : t.length ≤ 9223372036854775807) : Calls Try.prog 29 #[.agg #[.string ⟨n.toArray⟩, .int .i64 o, .int .i64 k, .int .i64 i, .string ⟨t.toArray⟩]] w fun e w' => e = .returned (.bool (Preds.right n o k i t)) ∧ Below w.heap.size w w' := by
  by_cases h : n.length < 1 ∨ 16 < n.length
  · exact pright_name n o k i t w hn hl h
  · by_cases h8 : o = 8
    · subst h8; exact pright_exists n k i t w hn hl (by omega) (by omega)
    · by_cases h7 : o = 7
      · subst h7; exact pright_pre n k i t w hn hl (by omega) (by omega)
      · by_cases h6 : 1 ≤ o ∧ o ≤ 6
        · exact pright_ord n o k i t w hn hl (by omega) (by omega) h6.1 h6.2
        · exact pright_none n o k i t w hn hl (by omega) (by omega) (by omega)
theorem pright_is (n : List UInt8) (o k i : Int) (t : List UInt8) (w : World) (hn : n.length ≤ 9223372036854775807) (hl : t.length ≤ 9223372036854775807) (b : Bool) (hb : Preds.right n o k i t = b) : Calls Try.prog 29 #[.agg #[.string ⟨n.toArray⟩, .int .i64 o, .int .i64 k, .int .i64 i, .string ⟨t.toArray⟩]] w fun e w' => e = .returned (.bool b) ∧ Below w.heap.size w w' := by
  subst hb; exact pright_at n o k i t w hn hl
set_option maxRecDepth 100000 in
set_option maxHeartbeats 1600000 in
theorem rpright_name (n : List UInt8) (o k i : Int) (t : List UInt8) (w : World) (hn : n.length ≤ 9223372036854775807) (_hl : t.length ≤ 9223372036854775807) (h : n.length < 1 ∨ 16 < n.length) : Calls Try.prog 33 #[.agg #[.string ⟨n.toArray⟩, .int .i64 o, .int .i64 k, .int .i64 i, .string ⟨t.toArray⟩]] w fun e w' => e = .returned (.bool (Preds.right n o k i t)) ∧ Below w.heap.size w w' := by
  obtain ⟨hB, hb0⟩ := box5 w 47 (.string ⟨n.toArray⟩) (.int .i64 o) (.int .i64 k) (.int .i64 i) (.string ⟨t.toArray⟩)
  have HF : Hid (Preds.right n o k i t = false) := by
    show _ = _
    unfold Preds.right
    rcases h with h | h
    · rw [decide_eq_false (by omega : ¬ 1 ≤ n.length)]; rfl
    · rw [decide_eq_false (by omega : ¬ n.length ≤ 16)]; simp
  by_cases h1 : n.length < 1
  · have d1 : decide ((n.length : Int) < 1) = true := by simp; omega
    clear h h1
    go_enter Try.func33, Try.ntmps33
    go_wp2_with fail
    go_ret
    exact ⟨ret_b HF.out.symm, hb0⟩
  · have d1 : decide ((n.length : Int) < 1) = false := by simp; omega
    have d2 : decide ((16 : Int) < (n.length : Int)) = true := by simp; omega
    clear h h1
    go_enter Try.func33, Try.ntmps33
    go_wp2_with fail
    go_ret
    exact ⟨ret_b HF.out.symm, hb0⟩
set_option maxRecDepth 100000 in
set_option maxHeartbeats 1600000 in
theorem rpright_exists (n : List UInt8) (k i : Int) (t : List UInt8) (w : World) (hn : n.length ≤ 9223372036854775807) (_hl : t.length ≤ 9223372036854775807) (h1 : 1 ≤ n.length) (h2 : n.length ≤ 16) : Calls Try.prog 33 #[.agg #[.string ⟨n.toArray⟩, .int .i64 8, .int .i64 k, .int .i64 i, .string ⟨t.toArray⟩]] w fun e w' => e = .returned (.bool (Preds.right n 8 k i t)) ∧ Below w.heap.size w w' := by
  obtain ⟨hB, hb0⟩ := box5 w 47 (.string ⟨n.toArray⟩) (.int .i64 8) (.int .i64 k) (.int .i64 i) (.string ⟨t.toArray⟩)
  have d1 : decide ((n.length : Int) < 1) = false := by simp; omega
  have d2 : decide ((16 : Int) < (n.length : Int)) = false := by simp; omega
  have HF : Hid (Preds.right n 8 k i t = decide (k = 0 ∧ i = 0 ∧ t = [])) := by
    show _ = _
    unfold Preds.right Preds.asks
    simp [h1, h2]
  clear h1 h2
  have hG := eqGuardV
  go_enter Try.func33, Try.ntmps33
  by_cases a0 : k = 0
  · subst a0
    by_cases a1 : i = 0
    · subst a1
      by_cases a2 : t = []
      · subst a2
        go_wp2_with fail
        go_ret
        exact ⟨ret_b (by rw [HF.out]; simp), hb0⟩
      · have e2 : (t == []) = false := by simpa using a2
        have HF2 : Hid (Preds.right n 8 0 0 t = false) := by show _ = _; rw [HF.out]; simp [a2]
        clear a2 HF
        go_wp2_with fail
        all_goals (go_ret; exact ⟨ret_b HF2.out.symm, hb0⟩)
    · have e1 : (i == 0) = false := by simpa using a1
      have HF2 : Hid (Preds.right n 8 0 i t = false) := by show _ = _; rw [HF.out]; simp [a1]
      clear a1 HF
      go_wp2_with fail
      all_goals (go_ret; exact ⟨ret_b HF2.out.symm, hb0⟩)
  · have e0 : (k == 0) = false := by simpa using a0
    have HF2 : Hid (Preds.right n 8 k i t = false) := by show _ = _; rw [HF.out]; simp [a0]
    clear a0 HF
    go_wp2_with fail
    all_goals (go_ret; exact ⟨ret_b HF2.out.symm, hb0⟩)
set_option maxRecDepth 100000 in
set_option maxHeartbeats 1600000 in
theorem rpright_else (n : List UInt8) (o k i : Int) (t : List UInt8) (w : World) (hn : n.length ≤ 9223372036854775807) (hl : t.length ≤ 9223372036854775807) (h1 : 1 ≤ n.length) (h2 : n.length ≤ 16) (ho : o ≠ 8) : Calls Try.prog 33 #[.agg #[.string ⟨n.toArray⟩, .int .i64 o, .int .i64 k, .int .i64 i, .string ⟨t.toArray⟩]] w fun e w' => e = .returned (.bool (Preds.right n o k i t)) ∧ Below w.heap.size w w' := by
  obtain ⟨hB, hb0⟩ := box5 w 47 (.string ⟨n.toArray⟩) (.int .i64 o) (.int .i64 k) (.int .i64 i) (.string ⟨t.toArray⟩)
  have d1 : decide ((n.length : Int) < 1) = false := by simp; omega
  have d2 : decide ((16 : Int) < (n.length : Int)) = false := by simp; omega
  have HF : Hid (Preds.right n o k i t = (Vals.right k i t && decide (t.length ≤ 32) && decide (1 ≤ o) && decide (o ≤ 7) && (decide (o ≠ 7) || decide (k = 2)))) := by
    show _ = _
    unfold Preds.right Preds.asks Preds.side
    rw [if_neg ho]
    by_cases h7 : o = 7
    · subst h7; simp [h1, h2]
    · have h76 : (o ≤ 7) ↔ (o ≤ 6) := by omega
      simp [h1, h2, h7, h76]
      cases Vals.right k i t <;> simp
      by_cases b1 : 1 ≤ o <;> by_cases b2 : o ≤ 6 <;> by_cases b3 : t.length ≤ 32 <;> simp [b1, b2, b3]
  have e8 : (o == 8) = false := by simpa using ho
  clear h1 h2
  go_enter Try.func33, Try.ntmps33
  go_wp2_with fail
  generalize w.alloc (.cells #[.string ⟨n.toArray⟩, .int .i64 o, .int .i64 k, .int .i64 i, .string ⟨t.toArray⟩] 47) = w0 at *
  refine (refRight_at k i t w0 hl).mono ?_
  rintro e w1 ⟨rfl, hb1⟩
  obtain ⟨c0, c1, c2, c3, c4, _, _, _, _, _⟩ := blk5 (hB.below hb1 hB.lt)
  have hbw := below_next hb0 (Nat.le_refl _) hb1
  clear hB hb0 hb1
  cases hr : Vals.right k i t with
  | false =>
    have HF2 : Hid (Preds.right n o k i t = false) := by show _ = _; rw [HF.out, hr]; rfl
    clear hr HF ho
    go_wp2_with fail
    go_ret
    exact ⟨ret_b HF2.out.symm, hbw⟩
  | true =>
    by_cases b1 : t.length ≤ 32
    · have q1 : decide ((t.length : Int) ≤ 32) = true := by simp; omega
      by_cases b2 : 1 ≤ o
      · have q2 : decide (1 ≤ o) = true := by simpa using b2
        by_cases b3 : o ≤ 7
        · have q3 : decide (o ≤ 7) = true := by simpa using b3
          by_cases b4 : o = 7
          · subst b4
            have HF2 : Hid (Preds.right n 7 k i t = (k == 2)) := by show _ = _; rw [HF.out, hr]; simp [b1]; by_cases h : k = 2 <;> simp [h]
            clear hr HF ho b1 b2 b3 q2 q3
            go_wp2_with fail
            go_ret
            exact ⟨ret_b HF2.out.symm, hbw⟩
          · have q4 : (o != 7) = true := by simpa using b4
            have HF2 : Hid (Preds.right n o k i t = true) := by show _ = _; rw [HF.out, hr]; simp [b1, b2, b3, b4]
            clear hr HF ho b1 b2 b3 b4
            go_wp2_with fail
            go_ret
            exact ⟨ret_b HF2.out.symm, hbw⟩
        · have q3 : decide (o ≤ 7) = false := by simpa using b3
          have HF2 : Hid (Preds.right n o k i t = false) := by show _ = _; rw [HF.out, hr]; simp [b3]
          clear hr HF ho b1 b2 b3
          go_wp2_with fail
          go_ret
          exact ⟨ret_b HF2.out.symm, hbw⟩
      · have q2 : decide (1 ≤ o) = false := by simpa using b2
        have HF2 : Hid (Preds.right n o k i t = false) := by show _ = _; rw [HF.out, hr]; simp [b2]
        clear hr HF ho b1 b2
        go_wp2_with fail
        go_ret
        exact ⟨ret_b HF2.out.symm, hbw⟩
    · have q1 : decide ((t.length : Int) ≤ 32) = false := by simp; omega
      have HF2 : Hid (Preds.right n o k i t = false) := by show _ = _; rw [HF.out, hr]; simp [b1]
      clear hr HF ho b1
      go_wp2_with fail
      go_ret
      exact ⟨ret_b HF2.out.symm, hbw⟩
theorem rpright_at (n : List UInt8) (o k i : Int) (t : List UInt8) (w : World) (hn : n.length ≤ 9223372036854775807) (hl : t.length ≤ 9223372036854775807) : Calls Try.prog 33 #[.agg #[.string ⟨n.toArray⟩, .int .i64 o, .int .i64 k, .int .i64 i, .string ⟨t.toArray⟩]] w fun e w' => e = .returned (.bool (Preds.right n o k i t)) ∧ Below w.heap.size w w' := by
  by_cases h : n.length < 1 ∨ 16 < n.length
  · exact rpright_name n o k i t w hn hl h
  · by_cases h8 : o = 8
    · subst h8; exact rpright_exists n k i t w hn hl (by omega) (by omega)
    · exact rpright_else n o k i t w hn hl (by omega) (by omega) h8
theorem rpright_is (n : List UInt8) (o k i : Int) (t : List UInt8) (w : World) (hn : n.length ≤ 9223372036854775807) (hl : t.length ≤ 9223372036854775807) (b : Bool) (hb : Preds.right n o k i t = b) : Calls Try.prog 33 #[.agg #[.string ⟨n.toArray⟩, .int .i64 o, .int .i64 k, .int .i64 i, .string ⟨t.toArray⟩]] w fun e w' => e = .returned (.bool b) ∧ Below w.heap.size w w' := by
  subst hb; exact rpright_at n o k i t w hn hl
set_option maxRecDepth 100000 in
theorem allows_at (o c : Int) (w : World) :
    Calls Try.prog 31 #[.int .i64 o, .int .i64 c] w fun e w' => e = .returned (.bool (Preds.allows o c)) ∧ w = w' := by
  go_enter Try.func31, Try.ntmps31
  go_wp2
  all_goals (go_ret; refine ⟨ret_b ?_, rfl⟩)
  all_goals (simp_all [Preds.allows])
theorem begins_no (a p : List UInt8) (h : a.length < p.length) : Preds.begins a p = false := by
  unfold Preds.begins
  rw [decide_eq_false (by omega)]; rfl
theorem extract_take (a : List UInt8) (m : Nat) : ((⟨a.toArray⟩ : ByteArray).extract 0 m).toList = a.take m := by
  rw [ByteArray.toList_eq, ByteArray.data_extract, Array.toList_extract]
  simp
theorem begins_yes (a p : List UInt8) (h : p.length ≤ a.length) : Preds.begins a p = (((⟨a.toArray⟩ : ByteArray).extract 0 p.length).toList == p) := by
  rw [extract_take]
  unfold Preds.begins
  rw [decide_eq_true h, Bool.true_and]
  by_cases h : a.take p.length = p <;> simp [h]
set_option maxRecDepth 100000 in
theorem hasPre_at (a p : List UInt8) (w : World) (_ha : a.length ≤ 9223372036854775807) (_hp : p.length ≤ 9223372036854775807) :
    Calls Try.prog 37 #[.string ⟨a.toArray⟩, .string ⟨p.toArray⟩] w fun e w' => e = .returned (.bool (Preds.begins a p)) ∧ w = w' := by
  by_cases h : p.length ≤ a.length
  · have d1 : decide (p.length ≤ a.length) = true := by simpa using h
    have HF := Lib.hid (begins_yes a p h)
    go_enter Try.func37, Try.ntmps37
    go_wp2_with fail
    go_ret
    exact ⟨ret_b HF.out.symm, rfl⟩
  · have d1 : decide (p.length ≤ a.length) = false := by simpa using h
    have HF := Lib.hid (begins_no a p (by omega))
    clear h
    go_enter Try.func37, Try.ntmps37
    go_wp2_with fail
    go_ret
    exact ⟨ret_b HF.out.symm, rfl⟩
set_option maxRecDepth 100000 in
theorem hasPrefix_at (a p : List UInt8) (w : World) (ha : a.length ≤ 9223372036854775807) (hp : p.length ≤ 9223372036854775807) :
    Calls Try.prog 30 #[.string ⟨a.toArray⟩, .string ⟨p.toArray⟩] w fun e w' => e = .returned (.bool (Preds.begins a p)) ∧ w = w' := by
  go_enter Try.func30, Try.ntmps30
  go_wp2_with fail
  refine (hasPre_at a p w ha hp).mono ?_
  rintro e w1 ⟨rfl, rfl⟩
  go_wp2_with fail
  go_ret
  exact ⟨rfl, rfl⟩
end Go.Proofs.Ytnfigjggjmncdaa
namespace Go.Proofs.Ytnfigjggjmncdaa
open Go.RowKit Go.Sort
theorem maxLen_num : maxLen = 9223372036854775807 := rfl
/-- Draws, and new blocks behind. -/
def Grown (w w' : World) : Prop := ∃ q os, w' = grow (w.drewN q) os
theorem Grown.refl (w : World) : Grown w w := ⟨0, #[], by rw [grow_empty]; rfl⟩
theorem Grown.alloc {w w' : World} (h : Grown w w') (o : Obj) : Grown w (w'.alloc o) := by
  obtain ⟨q, os, rfl⟩ := h
  exact ⟨q, os ++ #[o], by rw [alloc_eq_grow, grow_grow]⟩
theorem Grown.trans {a b c : World} (h : Grown a b) (k : Grown b c) : Grown a c := by
  obtain ⟨q, os, rfl⟩ := h
  obtain ⟨q', os', rfl⟩ := k
  exact ⟨q + q', os ++ os', by show grow (grow ((a.drewN q).drewN q') os) os' = _; rw [grow_grow, World.drewN_drewN]⟩
theorem Grown.more {a b : World} (h : Grown a b) (n : Nat) (os : Array Obj) : Grown a (grow (b.drewN n) os) := h.trans ⟨n, os, rfl⟩
theorem Grown.below {w w' : World} (h : Grown w w') : Below w.heap.size w w' := by
  obtain ⟨q, os, rfl⟩ := h
  refine ⟨rfl, rfl, rfl, by simp, fun k hk => ?_⟩
  show (w.heap ++ os)[k]? = _
  rw [Array.getElem?_append_left hk]
theorem ret_bool {a b : Bool} (h : a = b) : Ending.returned (.bool a) = .returned (.bool b) := by rw [h]
set_option maxRecDepth 100000 in
theorem right_gr (k i : Int) (t : List UInt8) (w : World) (hl : t.length ≤ 9223372036854775807) :
    Calls Try.prog 23 #[.agg #[.int .i64 k, .int .i64 i, .string ⟨t.toArray⟩]] w fun e w' => e = .returned (.bool (Vals.right k i t)) ∧ Grown w w' := by
  go_enter Try.func23, Try.ntmps23
  go_wp2
  all_goals (go_ret; refine ⟨congrArg (fun b => Ending.returned (Value.bool b)) ?_, (Grown.refl _).alloc _⟩)
  all_goals (simp_all [Vals.right])
  · cases t <;> rfl
  all_goals omega
end Go.Proofs.Ytnfigjggjmncdaa
namespace Go.Proofs.Ytnfigjggjmncdaa
open Go.RowKit Go.Sort
structure HQ (P : Program) (ops : Array Oper) (C : World → Prop) (Q : Act → Prop) (l : List Oper) (a : Act) : Prop where
  qo : wpQuiet P ops C Q l a
theorem hq_nil {P : Program} {ops : Array Oper} {C : World → Prop} {Q : Act → Prop} {a : Act} (h : Q a) : HQ P ops C Q [] a := ⟨wpQuiet_nil h⟩
theorem hq_step {P : Program} {ops : Array Oper} {C : World → Prop} {Q : Act → Prop} {a : Act} {o : Oper} {rest : List Oper}
    (h : ∀ K : Act → Prop, (∀ a, HQ P ops C Q rest a → K a) → if Region.wanted o (yielded ops a.tmps) then o.quiet P a C K else K (a.put o.dst undef)) : HQ P ops C Q (o :: rest) a :=
  ⟨wpQuiet_step fun K hK => h K fun a k => hK a k.qo⟩
theorem hq_region {P : Program} {id : Nat} {Q : Exit → Act → World → Prop} {a : Act} {w : World} {l : List Oper} (hm : P.follows .mixedOrders = true) (hB : Region.lexB .any l.toArray = true)
    (h : HQ P l.toArray (fun w' => ∃ p : GrownBy, w' = grow (w.drewN p.n) p.os) (fun a' => ∀ w', (∃ p : GrownBy, w' = grow (w.drewN p.n) p.os) → Q .normal a' w') l a) : (Code.region id l.toArray true).wp P Q a w :=
  wp_region_quiet_grown hm hB h.qo
theorem mixedT : Try.prog.follows .mixedOrders = true := by kernel_rfl
theorem hq_mono {P : Program} {ops : Array Oper} {C : World → Prop} {Q Q' : Act → Prop} (h : ∀ a, Q a → Q' a) : ∀ (l : List Oper) (a : Act), wpQuiet P ops C Q l a → wpQuiet P ops C Q' l a
  | [], a, k => h a k
  | o :: rest, a, k => by
    unfold wpQuiet at k ⊢
    by_cases hw : Region.wanted o (yielded ops a.tmps) = true
    · rw [if_pos hw] at k ⊢
      obtain ⟨v, h1, h2⟩ := k
      exact ⟨v, h1, hq_mono h rest _ h2⟩
    · rw [if_neg hw] at k ⊢
      exact hq_mono h rest _ k
/-- The whole region by one line: where it ends is found by the line itself. -/
theorem qgr {id : Nat} {Q : Exit → Act → World → Prop} {a a' : Act} {w : World} {l : List Oper} (h : ∀ nq osq, Q .normal a' (grow (w.drewN nq) osq))
    (hq : HQ Try.prog l.toArray (fun w' => ∃ p : GrownBy, w' = grow (w.drewN p.n) p.os) (fun b => b = a') l a := by (repeat (refine hq_step (fun K hK => ?_); go_simp; refine hK _ ?_; clear hK K)); exact hq_nil rfl)
    (hB : Region.lexB .any l.toArray = true := by kernel_rfl) : (Code.region id l.toArray true).wp Try.prog Q a w :=
  hq_region mixedT hB ⟨hq_mono (by rintro _ rfl w' ⟨p, rfl⟩; exact h _ _) _ _ hq.qo⟩
end Go.Proofs.Ytnfigjggjmncdaa
namespace Go.Proofs.Ytnfigjggjmncdaa
open Go.RowKit Go.ChangeShapes Go.WideShapes Go.Deep Go.Sort
/-- How a struct lies in memory: its cells, as many of each, none of them more than one; its type, its zero value, its bytes. -/
structure Lay (α : Type) where
  enc : α → List Value
  k : Nat
  T : TypeId
  zero : Array Value
  bytes : Nat
  len : ∀ a, (enc a).length = k
  one : ∀ a, ∀ v ∈ enc a, v.oneCell' = true
  pos : 0 < k
  zlen : zero.size = k
  info : (Try.prog.info? T).map (fun i => (i.zero, i.size, i.bytes)) = some (some (.agg zero), k, bytes)
section
variable {α : Type} {L : Lay α}
theorem Lay.has (L : Lay α) : ∃ i, Try.prog.info? L.T = some i ∧ i.zero = some (.agg L.zero) ∧ i.size = L.k ∧ i.bytes = L.bytes := by
  have h := L.info
  cases hq : Try.prog.info? L.T with
  | none => rw [hq] at h; simp at h
  | some i => rw [hq] at h; simp at h; exact ⟨i, rfl, h.1, h.2.1, h.2.2⟩
/-- Structs that a slice's address leads to. -/
def RdK (L : Lay α) (w : World) (A : Option Addr) (es : List α) : Prop :=
  es = [] ∨ ∃ g off, A = some ⟨g, off, none⟩ ∧ g < w.heap.size ∧ ∀ i (h : i < es.length) j v, (L.enc es[i])[j]? = some v → w.cell? ⟨g, off + i * L.k + j, none⟩ = some v
theorem RdK.nil (w : World) (A : Option Addr) : RdK L w A [] := .inl rfl
theorem RdK.at_ {w : World} {A : Option Addr} {es : List α} (h : RdK L w A es) {k : Nat} (hk : k < es.length) :
    ∃ g off, A = some ⟨g, off, none⟩ ∧ g < w.heap.size ∧ ∀ j v, (L.enc es[k])[j]? = some v → w.cell? ⟨g, off + k * L.k + j, none⟩ = some v := by
  rcases h with rfl | ⟨g, off, rfl, hg, hc⟩
  · simp at hk
  · exact ⟨g, off, rfl, hg, hc k hk⟩
theorem RdK.below {w w' : World} {A : Option Addr} {es : List α} (h : RdK L w A es) (hb : Below w.heap.size w w') : RdK L w' A es := by
  rcases h with rfl | ⟨g, off, rfl, hg, hc⟩
  · exact .inl rfl
  · exact .inr ⟨g, off, rfl, Nat.lt_of_lt_of_le hg hb.size, fun i hi j v hv => (hb.cell (p := ⟨g, off + i * L.k + j, none⟩) hg).trans (hc i hi j v hv)⟩
theorem RdK.take {w : World} {A : Option Addr} {es : List α} (h : RdK L w A es) (k : Nat) : RdK L w A (es.take k) := by
  rcases h with rfl | ⟨g, off, rfl, hg, hc⟩
  · exact .inl (by simp)
  · exact .inr ⟨g, off, rfl, hg, fun i hi => by
      have hi' : i < es.length := by simp at hi; omega
      rw [List.getElem_take]; exact hc i hi'⟩
theorem flatL_length (es : List α) : (es.flatMap L.enc).length = es.length * L.k := by
  induction es with
  | nil => simp
  | cons a r ih => rw [List.flatMap_cons, List.length_append, ih, L.len, List.length_cons, Nat.add_mul, Nat.one_mul, Nat.add_comm]
theorem flatL_at : ∀ (es : List α) (i : Nat) (h : i < es.length) (j : Nat), j < L.k → (es.flatMap L.enc)[i * L.k + j]? = (L.enc es[i])[j]?
  | [], _, h, _, _ => by simp at h
  | a :: r, 0, _, j, hj => by
    rw [List.flatMap_cons, List.getElem?_append_left (by rw [L.len]; omega)]; simp
  | a :: r, i + 1, h, j, hj => by
    have e : (i + 1) * L.k + j - (L.enc a).length = i * L.k + j := by rw [L.len, Nat.add_mul, Nat.one_mul]; omega
    rw [List.flatMap_cons, List.getElem?_append_right (by rw [L.len, Nat.add_mul, Nat.one_mul]; omega), e, flatL_at r i (by simpa using h) j hj]; rfl
theorem flatL_one (es : List α) : ∀ v ∈ es.flatMap L.enc, v.oneCell' = true := by
  intro v hv
  obtain ⟨a, _, hv⟩ := List.mem_flatMap.1 hv
  exact L.one a v hv
theorem flatL_of {es : List α} {j : Nat} {v : Value} (hv : (es.flatMap L.enc)[j]? = some v) : ∃ (h : j / L.k < es.length), (L.enc es[j / L.k])[j % L.k]? = some v := by
  have hj : j < es.length * L.k := by
    have := (List.getElem?_eq_some_iff.1 hv).1
    rwa [flatL_length] at this
  have hq : j / L.k < es.length := Nat.div_lt_of_lt_mul (by rwa [Nat.mul_comm] at hj)
  have e : j / L.k * L.k + j % L.k = j := by rw [Nat.mul_comm]; exact Nat.div_add_mod j L.k
  refine ⟨hq, ?_⟩
  rw [← flatL_at es (j / L.k) hq (j % L.k) (Nat.mod_lt _ L.pos), e]; exact hv
theorem RdK.src {w : World} {ad : Addr} {es : List α} (h : RdK L w (some ad) es) : ∀ j v, (es.flatMap L.enc)[j]? = some v → w.cell? (ad.add j) = some v := by
  intro j v hv
  obtain ⟨hq, hv⟩ := flatL_of hv
  obtain ⟨g, off, e, _, hc⟩ := h.at_ hq
  injection e with e
  subst e
  have e : j / L.k * L.k + j % L.k = j := by rw [Nat.mul_comm]; exact Nat.div_add_mod j L.k
  rw [add_lit]
  have := hc _ v hv
  rw [Nat.add_assoc, e] at this
  exact this
/-- A block whose first cells are structs. -/
theorem rdk_of_flat {w : World} {g : Nat} {t : TypeId} {cur : Array Value} {es : List α} (hg : Blk w g t cur) (h : cur.toList.take (es.length * L.k) = es.flatMap L.enc) : RdK L w (some ⟨g, 0, none⟩) es := by
  refine .inr ⟨g, 0, rfl, hg.lt, fun i hi j v hv => ?_⟩
  have hj : j < L.k := by have := (List.getElem?_eq_some_iff.1 hv).1; rwa [L.len] at this
  have hb : i * L.k + j < es.length * L.k := by
    have : (i + 1) * L.k ≤ es.length * L.k := Nat.mul_le_mul_right _ (by omega)
    rw [Nat.add_mul, Nat.one_mul] at this; omega
  rw [hg.cell, Nat.zero_add, ← hv, ← flatL_at es i hi j hj, ← h, List.getElem?_take_of_lt hb]
  simp
/-- A slice of structs that the call itself made. -/
def OwnK (L : Lay α) (w : World) (base : Nat) (v : Value) (es : List α) : Prop := w.ownsRow base L.T L.k v es.length (es.flatMap L.enc)
theorem OwnK.rd {w : World} {base : Nat} {v : Value} {es : List α} (h : OwnK L w base v es) : ∃ A c, v = .slice A es.length c ∧ es.length ≤ c ∧ RdK L w A es := by
  rcases h.2 with ⟨rfl, hn⟩ | ⟨g, cap, cur, rfl, _, hg, hc, _, _, ht⟩
  · have : es = [] := List.eq_nil_of_length_eq_zero hn
    subst this
    exact ⟨none, 0, rfl, by simp, .inl rfl⟩
  · exact ⟨_, cap, rfl, hc, rdk_of_flat hg ht⟩
theorem OwnK.base_le {w : World} {base : Nat} {v : Value} {es : List α} (h : OwnK L w base v es) : ∀ k, v.ownBlock = some k → base ≤ k := fun k hk => (h.lt k hk).1
theorem OwnK.none_ (w : World) (base : Nat) : OwnK L w base (.slice none 0 0) [] := by
  have := World.ownsRow_nil w base L.T L.k
  simpa [OwnK] using this
/-- '[]T{}' -/
theorem OwnK.empty (w : World) (base : Nat) (hb : base ≤ w.heap.size) : OwnK L (w.alloc (.cells #[] L.T)) base (.slice (some ⟨w.heap.size, 0, none⟩) 0 0) [] :=
  ⟨by simp, .inr ⟨w.heap.size, 0, #[], rfl, hb, heap_alloc_new _ _, by simp, by simp, by simp, by simp⟩⟩
theorem OwnK.below {w w' : World} {base : Nat} {v : Value} {es : List α} (h : OwnK L w base v es) (hb : Below w.heap.size w w') : OwnK L w' base v es := by
  refine ⟨h.1, ?_⟩
  rcases h.2 with h2 | ⟨g, cap, cur, hv, hbg, hg, r⟩
  · exact .inl h2
  · exact .inr ⟨g, cap, cur, hv, hbg, (hb.block g (Array.getElem?_eq_some_iff.1 hg).1).trans hg, r⟩
theorem OwnK.less {w : World} {base base' : Nat} {v : Value} {es : List α} (h : OwnK L w base v es) (hb : base' ≤ base) : OwnK L w base' v es := by
  refine ⟨h.1, ?_⟩
  rcases h.2 with h2 | ⟨g, cap, cur, hv, hbg, r⟩
  · exact .inl h2
  · exact .inr ⟨g, cap, cur, hv, Nat.le_trans hb hbg, r⟩
theorem run_append_k (w : World) (base : Nat) (st ty : TypeId) (hst : Try.prog.underlying st = some (.slice L.T)) (v : Value) (es : List α) (hown : OwnK L w base v es) (A : Option Addr) (fs : List α) (m c : Nat) (hr : RdK L w A fs) (hm : fs.length = m)
    (h63 : es.length + m ≤ maxLen) (hlb : (es.length + m) * L.bytes ≤ 140737488355328) (hbase : base ≤ w.heap.size) :
    ∃ v' w', (Builtin.append_ #[st, st] ty #[v, .slice A m c]).run Try.prog w = .ok v' w' ∧ OwnK L w' base v' (es ++ fs) ∧ w.grownBy w' v.ownBlock ∧ (v'.ownBlock = v.ownBlock ∨ v'.ownBlock = some w.heap.size) := by
  subst hm
  obtain ⟨i, hi, hz, hs, hby⟩ := L.has
  rcases A with _ | ad
  · have hfs : fs = [] := by
      rcases hr with h | ⟨_, _, h, _⟩
      · exact h
      · cases h
    subst hfs
    refine ⟨v, w, ?_, by simpa using hown, World.grownBy.refl w _, .inl rfl⟩
    rcases hown.2 with ⟨rfl, _⟩ | ⟨g, cap, cur, rfl, _, _, hnc, _⟩
    · simp [Builtin.append_, run_underlying hst, sizeOf, typeInfo, hi, Builtin.lenOf, Builtin.firstCells]
    · simp [Builtin.append_, run_underlying hst, sizeOf, typeInfo, hi, Builtin.lenOf, Builtin.firstCells, hnc, storeCells]
  · obtain ⟨v', w', hrun, h2, h3, _, h5⟩ := run_append_own_at (P := Try.prog) w base st ty L.T i _ L.k L.bytes hst hi hz hs hby (by show L.zero.size = _; exact L.zlen) L.pos v es.length (es.flatMap L.enc) hown ad fs.length c (fs.flatMap L.enc) (flatL_length fs) hr.src (flatL_one fs) h63 hlb hbase
    refine ⟨v', w', hrun, ?_, h3, h5⟩
    unfold OwnK
    rw [List.length_append, List.flatMap_append]
    exact h2
theorem wpList_append_k (L : Lay α) {w : World} {ops : Array Oper} {rest : List Oper} {o : Oper} {a : Act} {Q : Exit → Act → World → Prop} (hw : Region.wanted o (yielded ops a.tmps) = true) (s x : Operand) (st : TypeId) (hst : Try.prog.underlying st = some (.slice L.T))
    (ho : o.op = .call { callee := .builtin .append, args := #[s, x], argTypes := #[st, st] }) (base : Nat)
    (v : Value) (es : List α) (hs : a.eval s = v) (hown : OwnK L w base v es) (A : Option Addr) (fs : List α) (m c : Nat) (hx : a.eval x = .slice A m c) (hr : RdK L w A fs) (hm : fs.length = m)
    (h63 : es.length + m ≤ maxLen) (hlb : (es.length + m) * L.bytes ≤ 140737488355328) (hbase : base ≤ w.heap.size)
    (h : ∀ v' w', OwnK L w' base v' (es ++ fs) → (∀ w0, Below base w0 w → Below base w0 w') → w.grownBy w' v.ownBlock → (v'.ownBlock = v.ownBlock ∨ v'.ownBlock = some w.heap.size) → wpList Try.prog ops Q rest (a.put o.dst v') w') : wpList Try.prog ops Q (o :: rest) a w := by
  refine wpList_step fun K hK => ?_
  rw [if_pos hw]
  obtain ⟨v', w', hrun, h2, h3, h4⟩ := run_append_k w base st o.type hst v es hown A fs m c hr hm h63 hlb hbase
  unfold Oper.wp execOp
  simp only [ho, resolve, invoke, builtin, Sem.run_bind, Sem.run_pure, Result.andThen_ok, List.map_toArray, List.map_cons, List.map_nil, hs, hx, hrun]
  exact hK _ _ (h v' w' h2 (fun w0 hb => hb.grown h3 hbase hown.base_le) h3 h4)
/-- One struct in a block of its own, as append of one lays it. -/
theorem rdk_one (L : Lay α) (w : World) (a : α) (t : TypeId) (cs : Array Value) (h : cs = (L.enc a).toArray) : RdK L (w.alloc (.cells cs t)) (some ⟨w.heap.size, 0, none⟩) [a] :=
  rdk_of_flat (Blk.new w t _) (by subst h; simp; exact List.take_of_length_le (by rw [L.len]; exact Nat.le_refl _))
/-- Structs that a composite literal lays. -/
theorem rdk_lit (L : Lay α) (w : World) (es : List α) (t : TypeId) (cs : Array Value) (h : cs = (es.flatMap L.enc).toArray) : RdK L (w.alloc (.cells cs t)) (some ⟨w.heap.size, 0, none⟩) es :=
  rdk_of_flat (Blk.new w t _) (by subst h; simp; exact List.take_of_length_le (by rw [flatL_length]; exact Nat.le_refl _))
/-! Rows as the library's contracts want them. -/
variable [Inhabited α]
end
end Go.Proofs.Ytnfigjggjmncdaa
namespace Go.Proofs.Ytnfigjggjmncdaa
open Go.RowKit Go.Sort Spans
/-- A value's three cells. -/
def cellsV (v : Val) : List Value := [.int .i64 v.k, .int .i64 v.i, .string ⟨v.t.toArray⟩]
def layV : Lay Val where
  enc := cellsV
  k := 3
  T := 45
  zero := #[.int .i64 0, .int .i64 0, .string ⟨#[]⟩]
  bytes := 32
  len := fun _ => rfl
  one := fun a v hv => by simp [cellsV] at hv; rcases hv with rfl | rfl | rfl <;> rfl
  pos := by decide
  zlen := rfl
  info := by kernel_rfl
instance : Inhabited Pr := ⟨⟨[], 0, 0, 0, []⟩⟩
/-- A predicate's five cells. -/
def cellsP (p : Pr) : List Value := [.string ⟨p.n.toArray⟩, .int .i64 p.o, .int .i64 p.k, .int .i64 p.i, .string ⟨p.t.toArray⟩]
def layP : Lay Pr where
  enc := cellsP
  k := 5
  T := 47
  zero := #[.string ⟨#[]⟩, .int .i64 0, .int .i64 0, .int .i64 0, .string ⟨#[]⟩]
  bytes := 56
  len := fun _ => rfl
  one := fun a v hv => by simp [cellsP] at hv; rcases hv with rfl | rfl | rfl | rfl | rfl <;> rfl
  pos := by decide
  zlen := rfl
  info := by kernel_rfl
/-- Values that a slice's address leads to; predicates. -/
abbrev RdW (w : World) (A : Option Addr) (es : List Val) : Prop := RdK layV w A es
abbrev RdQ (w : World) (A : Option Addr) (es : List Pr) : Prop := RdK layP w A es
abbrev OwnW (w : World) (base : Nat) (v : Value) (es : List Val) : Prop := OwnK layV w base v es
abbrev OwnQ (w : World) (base : Nat) (v : Value) (es : List Pr) : Prop := OwnK layP w base v es
theorem RdW.at3 {w : World} {A : Option Addr} {es : List Val} (h : RdW w A es) {k : Nat} (hk : k < es.length) : ∃ g off, A = some ⟨g, off, none⟩ ∧ g < w.heap.size ∧
    w.cell? ⟨g, off + k * 3, none⟩ = some (.int .i64 es[k].k) ∧ w.cell? ⟨g, off + k * 3 + 1, none⟩ = some (.int .i64 es[k].i) ∧ w.cell? ⟨g, off + k * 3 + 2, none⟩ = some (.string ⟨es[k].t.toArray⟩) := by
  obtain ⟨g, off, rfl, hg, hc⟩ := RdK.at_ h hk
  exact ⟨g, off, rfl, hg, hc 0 _ rfl, hc 1 _ rfl, hc 2 _ rfl⟩
theorem RdQ.at5 {w : World} {A : Option Addr} {es : List Pr} (h : RdQ w A es) {k : Nat} (hk : k < es.length) : ∃ g off, A = some ⟨g, off, none⟩ ∧ g < w.heap.size ∧
    w.cell? ⟨g, off + k * 5, none⟩ = some (.string ⟨es[k].n.toArray⟩) ∧ w.cell? ⟨g, off + k * 5 + 1, none⟩ = some (.int .i64 es[k].o) ∧ w.cell? ⟨g, off + k * 5 + 2, none⟩ = some (.int .i64 es[k].k) ∧
    w.cell? ⟨g, off + k * 5 + 3, none⟩ = some (.int .i64 es[k].i) ∧ w.cell? ⟨g, off + k * 5 + 4, none⟩ = some (.string ⟨es[k].t.toArray⟩) := by
  obtain ⟨g, off, rfl, hg, hc⟩ := RdK.at_ h hk
  exact ⟨g, off, rfl, hg, hc 0 _ rfl, hc 1 _ rfl, hc 2 _ rfl, hc 3 _ rfl, hc 4 _ rfl⟩
theorem underQ : Try.prog.underlying 38 = some (.slice layP.T) := Try.underlying38
/-- A span by value. -/
def spV (a : Sp) (s : Value) : Value := .agg #[.int .i64 a.kind, .int .i64 a.lo, .int .i64 a.hi, .string ⟨a.frm.toArray⟩, .string ⟨a.to_.toArray⟩, .bool a.opn, s]
/-- A span that lies in a world, whosever its row is. -/
def SpIn (w : World) (a : Sp) (v : Value) : Prop := ∃ A c, v = spV a (.slice A a.no.length c) ∧ a.no.length ≤ c ∧ RdW w A a.no
/-- A span whose row the call made. -/
def SpOwn (w : World) (base : Nat) (a : Sp) (v : Value) : Prop := ∃ s, v = spV a s ∧ OwnW w base s a.no
theorem SpIn.below {w w' : World} {a : Sp} {v : Value} (h : SpIn w a v) (hb : Below w.heap.size w w') : SpIn w' a v := by
  obtain ⟨A, c, rfl, hc, hr⟩ := h
  exact ⟨A, c, rfl, hc, hr.below hb⟩
theorem SpOwn.below {w w' : World} {base : Nat} {a : Sp} {v : Value} (h : SpOwn w base a v) (hb : Below w.heap.size w w') : SpOwn w' base a v := by
  obtain ⟨s, rfl, h⟩ := h
  exact ⟨s, rfl, h.below hb⟩
theorem SpOwn.less {w : World} {base base' : Nat} {a : Sp} {v : Value} (h : SpOwn w base a v) (hb : base' ≤ base) : SpOwn w base' a v := by
  obtain ⟨s, rfl, h⟩ := h
  exact ⟨s, rfl, h.less hb⟩
theorem SpOwn.none_ (w : World) (base : Nat) : SpOwn w base none_ (spV none_ (.slice none 0 0)) := ⟨_, rfl, OwnK.none_ _ _⟩
theorem SpOwn.any_ (w : World) (base : Nat) : SpOwn w base any_ (spV any_ (.slice none 0 0)) := ⟨_, rfl, OwnK.none_ _ _⟩
theorem blk7 {w : World} {g : Nat} {t : TypeId} {a b c d e f s : Value} (hB : Blk w g t #[a, b, c, d, e, f, s]) :
    w.cell? ⟨g, 0, none⟩ = some a ∧ w.cell? ⟨g, 1, none⟩ = some b ∧ w.cell? ⟨g, 2, none⟩ = some c ∧ w.cell? ⟨g, 3, none⟩ = some d ∧ w.cell? ⟨g, 4, none⟩ = some e ∧ w.cell? ⟨g, 5, none⟩ = some f ∧ w.cell? ⟨g, 6, none⟩ = some s ∧
      w.frozen? ⟨g, 0, none⟩ = false ∧ w.frozen? ⟨g, 1, none⟩ = false ∧ w.frozen? ⟨g, 2, none⟩ = false ∧ w.frozen? ⟨g, 3, none⟩ = false ∧ w.frozen? ⟨g, 4, none⟩ = false ∧ w.frozen? ⟨g, 5, none⟩ = false ∧ w.frozen? ⟨g, 6, none⟩ = false :=
  ⟨hB.cell 0, hB.cell 1, hB.cell 2, hB.cell 3, hB.cell 4, hB.cell 5, hB.cell 6, hB.frozen 0, hB.frozen 1, hB.frozen 2, hB.frozen 3, hB.frozen 4, hB.frozen 5, hB.frozen 6⟩
end Go.Proofs.Ytnfigjggjmncdaa
namespace Go.Proofs.Ytnfigjggjmncdaa
open Go.RowKit
theorem drewN_more {w wr : World} (h : ∃ n, wr = w.drewN n) (m : Nat) : ∃ n, wr.drewN m = w.drewN n := by
  obtain ⟨n, rfl⟩ := h
  exact ⟨n + m, by simp [World.drewN, Nat.add_assoc]⟩
theorem below_of_drewN {w w' : World} (h : ∃ n, w' = w.drewN n) : Below w.heap.size w w' := by
  obtain ⟨n, rfl⟩ := h
  exact below_drewN (Below.refl _ _) n
set_option maxRecDepth 100000 in
theorem nanText_at (a : ByteArray) (w : World) : Calls Try.prog 43 #[.string a] w fun e w' => e = .returned (.bool false) ∧ w = w' := by
  go_enter Try.func43, Try.ntmps43
  go_wp2
  go_ret
  exact ⟨by simp, rfl⟩
set_option maxRecDepth 100000 in
theorem cmpText_at (a b : List UInt8) (w : World) : Calls Try.prog 40 #[.string ⟨a.toArray⟩, .string ⟨b.toArray⟩] w fun e w' => e = .returned (.int .i64 (Vals.cmpT a b)) ∧ w = w' := by
  go_enter Try.func40, Try.ntmps40
  go_wp2_with fail
  refine (nanText_at _ w).mono ?_
  rintro e w' ⟨rfl, rfl⟩
  go_wp2_with fail
  refine (nanText_at _ w).mono ?_
  rintro e w' ⟨rfl, rfl⟩
  go_wp2
  all_goals (go_ret; refine ⟨ret_int ?_, rfl⟩; simp_all [Vals.cmpT])
theorem less_same (a b : List UInt8) (q : Nat) (h1 : q < a.length) (h2 : q < b.length) (h : a[q] = b[q]) : Op.bytesLess (a.drop q) (b.drop q) = Op.bytesLess (a.drop (q + 1)) (b.drop (q + 1)) := by
  rw [List.drop_eq_getElem_cons h1, List.drop_eq_getElem_cons h2, h]
  simp [Op.bytesLess]
theorem less_here (a b : List UInt8) (q : Nat) (h1 : q < a.length) (h2 : q < b.length) (h : a[q] ≠ b[q]) : Op.bytesLess (a.drop q) (b.drop q) = decide (a[q].toNat < b[q].toNat) := by
  rw [List.drop_eq_getElem_cons h1, List.drop_eq_getElem_cons h2]
  simp [Op.bytesLess, h, UInt8.lt_iff_toNat_lt]
theorem less_end (a b : List UInt8) (q : Nat) (h1 : q ≤ a.length) (h2 : q ≤ b.length) (h : q = a.length ∨ q = b.length) : Op.bytesLess (a.drop q) (b.drop q) = decide (a.length < b.length) := by
  rcases Nat.lt_or_ge q b.length with h3 | h3
  · obtain rfl : q = a.length := by omega
    rw [List.drop_length, List.drop_eq_getElem_cons h3]
    simp [Op.bytesLess, h3]
  · obtain rfl : q = b.length := by omega
    rw [List.drop_length]
    simp [Op.bytesLess]; omega
set_option maxRecDepth 100000 in
theorem refLess_dn (a b : List UInt8) (hl : a.length ≤ 9223372036854775807) (hl2 : b.length ≤ 9223372036854775807) (w : World) :
    Calls Try.prog 44 #[.string ⟨a.toArray⟩, .string ⟨b.toArray⟩] w fun e w' => e = .returned (.bool (Op.bytesLess a b)) ∧ ∃ n, w' = w.drewN n := by
  go_enter Try.func44, Try.ntmps44
  go_wp2_with fail
  go_loopw [5] (fun x wr => ∃ q : Nat, q ≤ a.length ∧ q ≤ b.length ∧ x = .int .i64 (q : Int) ∧ (∃ n, wr = w.drewN n) ∧ Hid (Op.bytesLess a b = Op.bytesLess (a.drop q) (b.drop q))) (fun x _ => a.length - (intOf x).toNat)
  case atStart => exact ⟨0, by omega, by omega, rfl, ⟨0, rfl⟩, rfl⟩
  case round =>
    obtain ⟨q, hq1, hq2, rfl, hbr, HE⟩ := hrel
    by_cases c1 : q < a.length
    · by_cases c2 : q < b.length
      · have d1 : decide (q < a.length) = true := by simpa using c1
        have d2 : decide (q < b.length) = true := by simpa using c2
        have hx : ∀ h, (⟨a.toArray⟩ : ByteArray)[q]'h = a[q] := fun _ => rfl
        have hy : ∀ h, (⟨b.toArray⟩ : ByteArray)[q]'h = b[q] := fun _ => rfl
        by_cases he : a[q] = b[q]
        · have HE2 := Lib.hid (HE.out.trans (less_same a b q c1 c2 he))
          have d3 : (((a[q].toNat : Nat) : Int) != ((b[q].toNat : Nat) : Int)) = false := by simp [he]
          clear HE he
          go_wp2_with fail
          go_quiet (fail)
          have hbn : ∃ n, wr.drewN nq = w.drewN n := drewN_more hbr nq
          generalize wr.drewN nq = w2 at *
          go_wp2_with fail
          go_roundw
          case rel => exact ⟨q + 1, by omega, by omega, by go_num, hbn, HE2⟩
          case measure => simp [intOf]; omega
        · have HE2 := Lib.hid (HE.out.trans (less_here a b q c1 c2 he))
          have d3 : (((a[q].toNat : Nat) : Int) != ((b[q].toNat : Nat) : Int)) = true := by
            have : a[q].toNat ≠ b[q].toNat := fun h => he (UInt8.toNat_inj.1 h)
            simp; omega
          clear HE he
          go_wp2_with fail
          go_quiet (fail)
          have hbn : ∃ n, wr.drewN nq = w.drewN n := drewN_more hbr nq
          generalize wr.drewN nq = w2 at *
          go_wp2_with fail
          go_quiet (fail)
          have hbn2 : ∃ n, w2.drewN nq = w.drewN n := drewN_more hbn nq
          generalize w2.drewN nq = w3 at *
          go_wp2_with fail
          go_ret
          exact ⟨congrArg (fun x => Ending.returned (Value.bool x)) (by rw [HE2.out]), hbn2⟩
      · have d1 : decide (q < a.length) = true := by simpa using c1
        have d2 : decide (q < b.length) = false := by simpa using c2
        have HE2 := Lib.hid (HE.out.trans (less_end a b q hq1 hq2 (.inr (by omega))))
        go_wp2_with fail
        go_ret
        exact ⟨congrArg (fun x => Ending.returned (Value.bool x)) (by rw [HE2.out]), hbr⟩
    · have d1 : decide (q < a.length) = false := by simpa using c1
      have HE2 := Lib.hid (HE.out.trans (less_end a b q hq1 hq2 (.inl (by omega))))
      go_wp2_with fail
      go_ret
      exact ⟨congrArg (fun x => Ending.returned (Value.bool x)) (by rw [HE2.out]), hbr⟩
set_option maxRecDepth 100000 in
theorem refCmpText_dn (a b : List UInt8) (hl : a.length ≤ 9223372036854775807) (hl2 : b.length ≤ 9223372036854775807) (w : World) :
    Calls Try.prog 41 #[.string ⟨a.toArray⟩, .string ⟨b.toArray⟩] w fun e w' => e = .returned (.int .i64 (Vals.cmpT a b)) ∧ ∃ n, w' = w.drewN n := by
  by_cases he : a = b
  · subst he
    have HE := Lib.hid ((Vals.cmpT_zero a a).2 rfl)
    go_enter Try.func41, Try.ntmps41
    go_wp2_with fail
    go_ret
    exact ⟨ret_int HE.out.symm, 0, rfl⟩
  · have hd : (a == b) = false := by simpa using he
    have HE : Hid (∀ c, Op.bytesLess a b = c → Vals.cmpT a b = if c then -1 else 1) := by
      intro c hc
      unfold Vals.cmpT
      rw [hc, if_neg he]
    clear he
    cases hc : Op.bytesLess a b with
    | false =>
      have HC := Lib.hid (HE.out _ hc)
      have hL := refLess_dn a b hl hl2 w
      rw [hc] at hL
      clear hc HE
      go_enter Try.func41, Try.ntmps41
      go_wp2_with fail
      refine hL.mono ?_
      rintro e w1 ⟨rfl, hb1⟩
      go_wp2_with fail
      go_ret
      exact ⟨ret_int HC.out.symm, hb1⟩
    | true =>
      have HC := Lib.hid (HE.out _ hc)
      have hL := refLess_dn a b hl hl2 w
      rw [hc] at hL
      clear hc HE
      go_enter Try.func41, Try.ntmps41
      go_wp2_with fail
      refine hL.mono ?_
      rintro e w1 ⟨rfl, hb1⟩
      go_wp2_with fail
      go_ret
      exact ⟨ret_int HC.out.symm, hb1⟩
theorem refCmpText_at (a b : List UInt8) (hl : a.length ≤ 9223372036854775807) (hl2 : b.length ≤ 9223372036854775807) (w : World) :
    Calls Try.prog 41 #[.string ⟨a.toArray⟩, .string ⟨b.toArray⟩] w fun e w' => e = .returned (.int .i64 (Vals.cmpT a b)) ∧ Below w.heap.size w w' :=
  (refCmpText_dn a b hl hl2 w).mono fun _ _ ⟨h, k⟩ => ⟨h, below_of_drewN k⟩
end Go.Proofs.Ytnfigjggjmncdaa
namespace Go.Proofs.Ytnfigjggjmncdaa
open Go.RowKit
end Go.Proofs.Ytnfigjggjmncdaa
namespace Go.Proofs.Ytnfigjggjmncdaa
open Go.RowKit
end Go.Proofs.Ytnfigjggjmncdaa
namespace Go.Proofs.Ytnfigjggjmncdaa
open Go.RowKit
end Go.Proofs.Ytnfigjggjmncdaa
namespace Go.Proofs.Ytnfigjggjmncdaa
open Go.RowKit
/-- A row of a scan's two cells holds no byte. -/
theorem rd_apart {w : World} {g : Nat} {t : TypeId} {a : Option Addr} {n c : Nat} {z : Int} {A : Option Addr} {bs : List UInt8} (hB : Blk w g t #[.slice a n c, .int .i64 z]) (hr : Rd w A bs) (off : Nat) : A ≠ some ⟨g, off, none⟩ ∨ bs = [] := by
  rcases hr with rfl | ⟨g', off', rfl, hg, hc⟩
  · exact .inr rfl
  · by_cases h0 : bs = []
    · exact .inr h0
    · refine .inl fun e => ?_
      cases e
      have hl : 0 < bs.length := List.length_pos_iff.2 h0
      have h := hc 0 hl
      rw [hB.cell] at h
      rcases off with _ | _ | off
      · simp at h
      · simp at h
      · simp at h
/-- An address ahead of a block. -/
def Ahd (A : Option Addr) (g : Nat) : Prop := ∀ a, A = some a → a.block < g
/-- A scan in block g. -/
def Sc (w : World) (g : Nat) (t : TypeId) (s : Wire.St) : Prop :=
  ∃ A n cap, Blk w g t #[.slice A n cap, .int .i64 s.err] ∧ s.rest.length = n ∧ n ≤ cap ∧ cap ≤ 140737488355328 ∧ Rd w A s.rest ∧ Ahd A g
theorem Sc.lt {w : World} {g : Nat} {t : TypeId} {s : Wire.St} (h : Sc w g t s) : g < w.heap.size := by
  obtain ⟨A, n, cap, hB, _⟩ := h
  exact hB.lt
theorem Sc.below {w w' : World} {g : Nat} {t : TypeId} {s : Wire.St} (h : Sc w g t s) (hb : Below w.heap.size w w') : Sc w' g t s := by
  obtain ⟨A, n, cap, hB, h1, h2, h3, hr, ha⟩ := h
  exact ⟨A, n, cap, hB.below hb hB.lt, h1, h2, h3, hr.below hb, ha⟩
end Go.Proofs.Ytnfigjggjmncdaa
namespace Go.Proofs.Ytnfigjggjmncdaa
open Go.RowKit
/-- What a reading leaves: the value's kind and number, the scan's state, only its block turned. -/
def Reads (w : World) (g : Nat) (T : TypeId) (v : Value) (s : Wire.St) (e : Ending) (w' : World) : Prop := e = .returned v ∧ Sc w' g T s ∧ Touch g w w'
/-- One scan's reading leaves another one as it was. -/
theorem Touch.sc {g g' : Nat} {T T' : TypeId} {w w' : World} {s s' : Wire.St} (h : Touch g w w') (hg : Sc w g T s) (hg' : Sc w g' T' s') (hne : g' ≠ g) : Sc w' g' T' s' := by
  obtain ⟨A, n, cap, hB, _⟩ := hg
  obtain ⟨A', n', cap', hB', h1, h2, h3, hr, ha⟩ := hg'
  exact ⟨A', n', cap', h.blk hB' hne, h1, h2, h3, h.rd hr (rd_apart hB hr), ha⟩
theorem Sc.drew {w : World} {g : Nat} {t : TypeId} {s : Wire.St} (h : Sc w g t s) : Sc w.drew g t s := h
theorem Sc.drewN {w : World} {g : Nat} {t : TypeId} {s : Wire.St} (h : Sc w g t s) (n : Nat) : Sc (w.drewN n) g t s := h
end Go.Proofs.Ytnfigjggjmncdaa
namespace Go.Proofs.Ytnfigjggjmncdaa
open Go.RowKit
set_option maxRecDepth 100000 in
theorem nanInt_at (a : Int) (w : World) : Calls Try.prog 42 #[.int .i64 a] w fun e w' => e = .returned (.bool false) ∧ w = w' := by
  go_enter Try.func42, Try.ntmps42
  go_wp2
  go_ret
  exact ⟨by simp, rfl⟩
set_option maxRecDepth 100000 in
theorem cmpInt_at (a b : Int) (w : World) : Calls Try.prog 39 #[.int .i64 a, .int .i64 b] w fun e w' => e = .returned (.int .i64 (Vals.cmpI a b)) ∧ w = w' := by
  go_enter Try.func39, Try.ntmps39
  go_wp2_with fail
  refine (nanInt_at a w).mono ?_
  rintro e w' ⟨rfl, rfl⟩
  go_wp2_with fail
  refine (nanInt_at b w).mono ?_
  rintro e w' ⟨rfl, rfl⟩
  go_wp2
  all_goals (go_ret; refine ⟨ret_int ?_, rfl⟩; simp_all [Vals.cmpI])
  rw [if_neg (by omega), if_neg (by omega)]
def or3 (a b c : Int) : Int := if a ≠ 0 then a else if b ≠ 0 then b else c
set_option maxRecDepth 100000 in
theorem or_at (w : World) (g : Nat) (a b c : Int) (hB : Blk w g 3 #[.int .i64 a, .int .i64 b, .int .i64 c]) :
    Calls Try.prog 38 #[.slice (some ⟨g, 0, none⟩) 3 3] w fun e w' => e = .returned (.int .i64 (or3 a b c)) ∧ w = w' := by
  obtain ⟨c0, c1, c2, f0, f1, f2⟩ := blk3 hB
  go_enter Try.func38, Try.ntmps38
  go_wp2_with fail
  go_loopw [8] (fun x wr => ∃ q : Nat, q ≤ 3 ∧ x = .int .i64 (q : Int) ∧ w = wr ∧ (0 < q → a = 0) ∧ (1 < q → b = 0) ∧ (2 < q → c = 0)) (fun x _ => 3 - (intOf x).toNat)
  case atStart => exact ⟨0, by omega, rfl, rfl, by omega, by omega, by omega⟩
  case round =>
    obtain ⟨q, hq, rfl, rfl, h0, h1, h2⟩ := hrel
    by_cases hlt : q < 3
    · obtain ⟨v, hc, h3, h4⟩ : ∃ v, w.cell? ⟨g, q, none⟩ = some (.int .i64 v) ∧ (v = 0 → (0 < q + 1 → a = 0) ∧ (1 < q + 1 → b = 0) ∧ (2 < q + 1 → c = 0)) ∧ (v ≠ 0 → or3 a b c = v) := by
        have h3 : q = 0 ∨ q = 1 ∨ q = 2 := by omega
        rcases h3 with rfl | rfl | rfl
        · exact ⟨a, c0, fun h => ⟨fun _ => h, by omega, by omega⟩, fun h => by unfold or3; rw [if_pos h]⟩
        · exact ⟨b, c1, fun h => ⟨fun _ => h0 (by omega), fun _ => h, by omega⟩, fun h => by unfold or3; rw [if_neg (by simp [h0]), if_pos h]⟩
        · exact ⟨c, c2, fun h => ⟨fun _ => h0 (by omega), fun _ => h1 (by omega), fun _ => h⟩, fun h => by unfold or3; rw [if_neg (by simp [h0]), if_neg (by simp [h1])]⟩
      clear c0 c1 c2 f0 f1 f2 h0 h1 h2
      have hf := hB.frozen q
      by_cases hv : v = 0
      · have h5 := Lib.hid (h3 hv)
        subst hv
        clear h3 h4
        go_wp2_with fail
        go_roundw
        case rel => exact ⟨q + 1, by omega, by go_num, trivial, h5.out⟩
        case measure => simp [intOf]; omega
      · have hd : (v == 0) = false := by simpa using hv
        have h5 := Lib.hid (h4 hv)
        clear h3 h4 hv
        go_wp2_with fail
        go_ret
        exact ⟨ret_int h5.out.symm, rfl⟩
    · obtain rfl : q = 3 := by omega
      have h5 : Hid (or3 a b c = 0) := by
        show _ = _
        unfold or3
        simp [h0, h1, h2]
      clear c0 c1 c2 f0 f1 f2 h0 h1 h2
      go_wp2_with fail
      go_ret
      exact ⟨ret_int h5.out.symm, rfl⟩
end Go.Proofs.Ytnfigjggjmncdaa
