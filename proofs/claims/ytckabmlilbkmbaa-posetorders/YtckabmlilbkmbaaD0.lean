/- Contracts of the program and of the document (GMap, GRng), each used further on. -/
import Derived.Maps.RangeWalk
import Derived.Maps.Ext
import Derived.Maps.OwnSet
import Derived.Sort.KeysCollected
import Derived.Sort.Walk0
import Derived.Deep.LoopGhost
import Derived.Test.YtckabmlilbkmbaaA4
namespace Go.Proofs.Ytckabmlilbkmbaa
open Go.RowKit Go.Maps Go.WideMaps Spans Op
theorem lawS : Keyed Try.prog 9 := string_keyed Try.underlying9
/-- The fields of a span by value, and where its row lies. -/
structure Rw where
  kind : Int
  lo : Int
  hi : Int
  frm : List UInt8
  to_ : List UInt8
  opn : Bool
  A : Option Addr
  n : Nat
  c : Nat
def mkR (r : Rw) : Value := spF r.kind r.lo r.hi r.frm r.to_ r.opn r.A r.n r.c
theorem mkR_inj {r s : Rw} (h : mkR r = mkR s) : r = s := by
  cases r; cases s
  simp only [mkR] at h
  injection h with h
  simp at h
  simp_all
open Classical in
/-- How a span in a map is read: by its fields. -/
noncomputable def elemR (v : Value) : Option (DataW Rw × List MemPlace) := if h : ∃ r, v = mkR r then some (.held (Classical.choose h), []) else none
theorem elemR_mk (r : Rw) : elemR (mkR r) = some (.held r, []) := by
  have h : ∃ s, mkR r = mkR s := ⟨r, rfl⟩
  unfold elemR
  rw [dif_pos h]
  have := mkR_inj (Classical.choose_spec h)
  rw [← this]
theorem elemR_inv {v : Value} {y : DataW Rw × List MemPlace} (h : elemR v = some y) : ∃ r, v = mkR r ∧ y = (.held r, []) := by
  unfold elemR at h
  by_cases hr : ∃ r, v = mkR r
  · rw [dif_pos hr] at h
    injection h with h
    exact ⟨_, Classical.choose_spec hr, h.symm⟩
  · rw [dif_neg hr] at h; cases h
def zeroRw : Rw := ⟨0, 0, 0, [], [], false, none, 0, 0⟩
theorem zeroSp (w : World) : (zeroValue 58).run Try.prog w = .ok (mkR zeroRw) w := by kernel_rfl
/-- The fields of a span whose row lies there. -/
def rw_ (a : Sp) (A : Option Addr) (c : Nat) : Rw := ⟨a.kind, a.lo, a.hi, a.frm, a.to_, a.opn, A, a.no.length, c⟩
abbrev OwnM (w : World) (b m : Nat) (D : DataW Rw) : Prop := w.ownsMap Try.prog 9 elemR b m D
/-- What a map of a filter's spans holds. -/
structure Spm (w : World) (D : DataW Rw) (f : List Pr) (S : List UInt8 → Sp) : Prop where
  map : IsMap D
  has : ∀ n, Maps.has D (.string n) = true ↔ Fil.Asked f n
  all : ∀ n, Fil.Asked f n → IsAll (Fil.of f n) (S n) ∧ (S n).no.length ≤ f.length ∧ ∃ A c, (∀ z, D.atKey (.string n) z = .held (rw_ (S n) A c)) ∧ (S n).no.length ≤ c ∧ RdW w A (S n).no
theorem Spm.below {w w' : World} {D : DataW Rw} {f : List Pr} {S : List UInt8 → Sp} (h : Spm w D f S) (hb : Below w.heap.size w w') : Spm w' D f S :=
  ⟨h.map, h.has, fun n hn => by
    obtain ⟨h1, h2, A, c, h3, h4, h5⟩ := h.all n hn
    exact ⟨h1, h2, A, c, h3, h4, h5.below hb⟩⟩
theorem Spm.spans {w : World} {D : DataW Rw} {f : List Pr} {S : List UInt8 → Sp} (h : Spm w D f S) : Fil.IsSpans f S := fun n hn => (h.all n hn).1
/-- A map that lies in a block, of a filter's spans. -/
def SpMap (w : World) (b : Nat) (f : List Pr) (S : List UInt8 → Sp) : Prop := ∃ m D, OwnM w b m D ∧ m ≤ f.length ∧ Spm w D f S
theorem OwnM.below {w w' : World} {b m : Nat} {D : DataW Rw} (h : OwnM w b m D) (hb : Below w.heap.size w w') : OwnM w' b m D := by
  obtain ⟨es, clock, h1, h2⟩ := h
  exact ⟨es, clock, (hb.block b (Array.getElem?_eq_some_iff.1 h1).1).trans h1, h2⟩
theorem SpMap.below {w w' : World} {b : Nat} {f : List Pr} {S : List UInt8 → Sp} (h : SpMap w b f S) (hb : Below w.heap.size w w') : SpMap w' b f S := by
  obtain ⟨m, D, h1, h2, h3⟩ := h
  exact ⟨m, D, OwnM.below h1 hb, h2, h3.below hb⟩
theorem SpMap.lt {w : World} {b : Nat} {f : List Pr} {S : List UInt8 → Sp} (h : SpMap w b f S) : b < w.heap.size := by
  obtain ⟨m, D, h1, _⟩ := h
  exact World.ownsMap.lt h1
theorem keyN {n : List UInt8} (h : n.length ≤ 9223372036854775807) : keyOf Try.prog 9 (.string ⟨n.toArray⟩) = some (.string n) :=
  keyOf_string_mk Try.underlying9 (by show n.toArray.size ≤ _; rw [maxLen_num]; simp; omega)
/-- A look-up of a name that is there. -/
theorem look_yes {w : World} {b m : Nat} {D : DataW Rw} {n : List UInt8} {r : Rw} (h : OwnM w b m D) (hn : n.length ≤ 9223372036854775807) (hr : ∀ z, D.atKey (.string n) z = .held r) :
    (Instr.lookup 53 (.map (some b)) (.string ⟨n.toArray⟩) true).run Try.prog w = .ok (.tuple #[mkR r, .bool true]) w ∧ (Instr.lookup 53 (.map (some b)) (.string ⟨n.toArray⟩) false).run Try.prog w = .ok (mkR r) w := by
  have hh : Maps.has D (.string n) = true := has_true_of_atKey hr
  obtain ⟨v, ps, hrun, hv⟩ := World.ownsMap.look_ok h lawS Try.underlying53 (zeroSp w) (elemR_mk zeroRw) (keyN hn)
  obtain ⟨v', ps', hrun', hv'⟩ := World.ownsMap.lookup h lawS Try.underlying53 (zeroSp w) (elemR_mk zeroRw) (keyN hn)
  rw [hr] at hv hv'
  obtain ⟨s, rfl, hs⟩ := elemR_inv hv
  obtain ⟨s', rfl, hs'⟩ := elemR_inv hv'
  simp only [Prod.mk.injEq, DataW.held.injEq] at hs hs'
  obtain ⟨rfl, _⟩ := hs
  obtain ⟨rfl, _⟩ := hs'
  rw [hh] at hrun
  exact ⟨hrun, hrun'⟩
/-- A look-up of a name that is not there. -/
theorem look_no {w : World} {b m : Nat} {D : DataW Rw} {n : List UInt8} (h : OwnM w b m D) (hn : n.length ≤ 9223372036854775807) (hh : Maps.has D (.string n) = false) :
    (Instr.lookup 53 (.map (some b)) (.string ⟨n.toArray⟩) true).run Try.prog w = .ok (.tuple #[spF 0 0 0 [] [] false none 0 0, .bool false]) w := by
  obtain ⟨v, ps, hrun, hv⟩ := World.ownsMap.look_ok h lawS Try.underlying53 (zeroSp w) (elemR_mk zeroRw) (keyN hn)
  rw [atKey_of_not_has hh] at hv
  obtain ⟨s, rfl, hs⟩ := elemR_inv hv
  simp only [Prod.mk.injEq, DataW.held.injEq] at hs
  obtain ⟨rfl, _⟩ := hs
  rw [hh] at hrun
  exact hrun
theorem isKey (n : List UInt8) : WideAt.IsKeyLit (.string n) := trivial
/-- One predicate more. -/
theorem Spm.snoc {w : World} {D : DataW Rw} {f : List Pr} {S : List UInt8 → Sp} {p : Pr} {a : Sp} {A : Option Addr} {c : Nat} (h : Spm w D f S) (ha : IsAll (Fil.of f p.n ++ [p]) a) (hl : a.no.length ≤ f.length + 1) (hc : a.no.length ≤ c) (hr : RdW w A a.no) :
    Spm w (D.put (.string p.n) (.held (rw_ a A c))) (f ++ [p]) (fun n => if n = p.n then a else S n) where
  map := h.map.put _ _
  has := fun n => by
    by_cases hn : n = p.n
    · subst hn
      rw [has_put_same h.map (isKey _)]
      exact ⟨fun _ => Fil.asked_app.2 (.inr ⟨p, by simp, rfl⟩), fun _ => rfl⟩
    · rw [has_put_other (by simpa using hn), h.has n, Fil.asked_app]
      exact ⟨.inl, fun k => k.resolve_right fun ⟨q, hq, e⟩ => by simp at hq; subst hq; exact hn e.symm⟩
  all := fun n hn => by
    by_cases e : n = p.n
    · subst e
      rw [if_pos rfl]
      refine ⟨?_, by simp; omega, A, c, fun z => atKey_put_same h.map (isKey _) _ _, hc, hr⟩
      rw [Fil.of_app]
      have : Fil.of [p] p.n = [p] := by simp [Fil.of]
      rw [this]
      exact ha
    · rw [if_neg e]
      have hn' : Fil.Asked f n := (Fil.asked_app.1 hn).resolve_right fun ⟨q, hq, k⟩ => by simp at hq; subst hq; exact e k.symm
      obtain ⟨h1, h2, A', c', h3, h4, h5⟩ := h.all n hn'
      refine ⟨?_, by simp; omega, A', c', fun z => by rw [atKey_put_other (by simpa using e)]; exact h3 z, h4, h5⟩
      rw [Fil.of_app]
      have : Fil.of [p] n = [] := by simp [Fil.of]; exact fun k => e k.symm
      rw [this, List.append_nil]
      exact h1
theorem of_none {f : List Pr} {n : List UInt8} (h : ¬ Fil.Asked f n) : Fil.of f n = [] := List.filter_eq_nil_iff.2 fun p hp => by simp; exact fun e => h ⟨p, hp, e⟩
end Go.Proofs.Ytckabmlilbkmbaa
namespace Go.Proofs.Ytckabmlilbkmbaa
open Go.RowKit Go.Maps Spans Op
/-- Predicates of names and texts that are short, and of ints of sixty-four bits. -/
def PBd (f : List Pr) : Prop := ∀ p ∈ f, p.n.length ≤ 100 ∧ p.t.length ≤ 100 ∧ -9223372036854775808 ≤ p.i ∧ p.i ≤ 9223372036854775807
theorem PBd.right {f : List Pr} (h : PBd f) {p : Pr} (hp : p ∈ f) : rightP p = Preds.right p.n p.o p.k p.i p.t := by
  obtain ⟨_, _, h1, h2⟩ := h p hp
  unfold rightP
  simp [h1, h2]
set_option maxRecDepth 100000 in
set_option maxHeartbeats 1000000 in
theorem allRight_at (A : Option Addr) (f : List Pr) (n c : Nat) (hn : f.length = n) (hm : n ≤ 100000) (hl : PBd f) (w : World) (hr : RdQ w A f) (b : Bool) (hb : decide (Fil.AllRight f) = b) :
    Calls Try.prog 39 #[.slice A n c] w fun e w' => e = .returned (.bool b) ∧ Below w.heap.size w w' := by
  subst hb
  have HN := Lib.hid hn
  have HLL := Lib.hid hl
  have HR := Lib.hid hr
  clear hn hl hr
  go_enter Try.func39, Try.ntmps39
  go_wp2_with fail
  go_loopg [7] n (fun gg s7 wr => ∃ k : Nat, k ≤ n ∧ n - k ≤ gg ∧ s7 = .int .i64 (k : Int) ∧ Hid (Below w.heap.size w wr) ∧ Hid (∀ p ∈ f.take k, rightP p = true))
  case atStart => exact ⟨0, Nat.zero_le _, by omega, rfl, Below.refl _ _, fun p hp => by simp at hp⟩
  case round =>
    obtain ⟨k, hk, hgg, rfl, HB, HA⟩ := hrel
    by_cases hlt : k < n
    · have hk' : k < f.length := by rw [HN.out]; exact hlt
      have hpl := HLL.out _ (List.getElem_mem hk')
      have hpr := HLL.out.right (List.getElem_mem hk')
      obtain ⟨g, off, rfl, hg, c0, c1, c2, c3, c4⟩ := RdQ.at5 (RdK.below HR.out HB.out) hk'
      obtain ⟨x, hx⟩ : ∃ x, f[k] = x := ⟨_, rfl⟩
      have HX := Lib.hid hx
      rw [hx] at c0 c1 c2 c3 c4 hpl hpr
      clear hx HLL HR
      obtain ⟨xn, xo, xk, xi, xt⟩ := x
      obtain ⟨hp1, hp2, hp3, hp4⟩ := hpl
      dsimp only at hp1 hp2 hp3 hp4 hpr c0 c1 c2 c3 c4
      have HPR := Lib.hid hpr
      clear hpr
      have w5 : (k : Int) < (n : Int) := by omega
      have HB1 := Lib.hid (HB.out.alloc (by have := HB.out.size; omega) (.cells #[.string ⟨xn.toArray⟩, .int .i64 xo, .int .i64 xk, .int .i64 xi, .string ⟨xt.toArray⟩] 47))
      cases hq : Preds.right xn xo xk xi xt with
      | true =>
        have HQ := Lib.hid hq
        clear hq
        go_wp2_with fail
        refine (pright_is xn xo xk xi xt _ (by omega) (by omega) true HQ.out).mono ?_
        rintro e w2 ⟨rfl, hb2⟩
        have HB2 := Lib.hid (below_next HB1.out (by have := HB1.out.size; omega) hb2)
        have HA2 : Hid (∀ p ∈ f.take (k + 1), rightP p = true) := by
          show ∀ p ∈ _, _
          rw [List.take_succ_eq_append_getElem hk', HX.out]
          intro p hp
          rcases List.mem_append.1 hp with hp | hp
          · exact HA.out p hp
          · simp at hp; subst hp; rw [HPR.out]; exact HQ.out
        clear hb2 c0 c1 c2 c3 c4
        go_wp2_with fail
        go_roundg (n - (k + 1))
        case measure => omega
        case rel => exact ⟨k + 1, by omega, Nat.le_refl _, by go_num, HB2, HA2⟩
      | false =>
        have HQ := Lib.hid hq
        clear hq
        go_wp2_with fail
        refine (pright_is xn xo xk xi xt _ (by omega) (by omega) false HQ.out).mono ?_
        rintro e w2 ⟨rfl, hb2⟩
        have HB2 := Lib.hid (below_next HB1.out (by have := HB1.out.size; omega) hb2)
        have HF : Hid (¬ Fil.AllRight f) := fun h => by
          have := h _ (List.getElem_mem hk')
          rw [HX.out, HPR.out, HQ.out] at this
          cases this
        clear hb2 c0 c1 c2 c3 c4
        go_wp2_with fail
        go_ret
        exact ⟨ret_b (decide_eq_false HF.out).symm, HB2.out⟩
    · have hkn : Hid (k = n) := by show k = n; omega
      go_wp2_with fail
      go_ret
      refine ⟨ret_b (decide_eq_true ?_).symm, HB.out⟩
      have := HA.out
      rwa [hkn.out, List.take_of_length_le (by rw [HN.out]; exact Nat.le_refl _)] at this
set_option maxRecDepth 100000 in
set_option maxHeartbeats 1000000 in
theorem sound_at (A : Option Addr) (f : List Pr) (n c : Nat) (hn : f.length = n) (hm : n ≤ 100000) (hl : PBd f) (w : World) (hr : RdQ w A f) (b : Bool) (hb : decide (Fil.Sound f) = b) :
    Calls Try.prog 28 #[.slice A n c] w fun e w' => e = .returned (.bool b) ∧ Below w.heap.size w w' := by
  subst hb
  have HN := Lib.hid hn
  by_cases h24 : n ≤ 24
  · have hc := fun W hW => allRight_at A f n c hn hm hl W hW _ rfl
    have HS : Hid (decide (Fil.Sound f) = decide (Fil.AllRight f)) := decide_eq_decide.2 ⟨fun h => h.2, fun h => ⟨by rw [HN.out]; exact h24, h⟩⟩
    clear hn hl
    go_enter Try.func28, Try.ntmps28
    go_wp2_with fail
    refine (hc _ hr).mono ?_
    rintro e w2 ⟨rfl, hb2⟩
    clear hc
    go_wp2_with fail
    go_ret
    exact ⟨ret_b (by rw [HS.out]), hb2⟩
  · have HS : Hid (decide (Fil.Sound f) = false) := decide_eq_false fun h => h24 (by have := h.1; rw [HN.out] at this; exact this)
    clear hn hl hr
    go_enter Try.func28, Try.ntmps28
    go_wp2_with fail
    go_ret
    exact ⟨ret_b (by rw [HS.out]), Below.refl _ _⟩
/-- THE STEP of a range over a map of spans. -/
theorem wpList_next_S {w : World} {ops : Array Oper} {rest : List Oper} {oo : Oper} {a : Act} {Q : Exit → Act → World → Prop} (hg : oo.guard = none) (it : Operand) (hop : oo.op = Op.next it false) (b r n : Nat) (D : DataW Rw) (left : Lit → Bool) (cnt : Nat)
    (hit : a.eval it = .pointer (some ⟨r, 0, none⟩)) (h : w.ranges Try.prog 9 elemR b r n D left cnt)
    (hDone : cnt = 0 → (∀ kl, left kl = false) → wpList Try.prog ops Q rest (a.put oo.dst (.tuple #[.bool false])) w)
    (hMore : ∀ (x : List UInt8) (s : Rw) (w' : World) (cnt' : Nat), left (.string x) = true → (∀ zd, D.atKey (.string x) zd = .held s) → w'.ranges Try.prog 9 elemR b r n D (fun z => left z && !z.sameKey (.string x)) cnt' → cnt' < cnt →
      w.grownBy w' (some r) → w'.heap.size = w.heap.size → (Instr.entry (.pointer (some ⟨r, 0, none⟩))).run Try.prog w' = .ok (.tuple #[.string ⟨x.toArray⟩, .agg #[.int .i64 s.kind, .int .i64 s.lo, .int .i64 s.hi, .string ⟨s.frm.toArray⟩, .string ⟨s.to_.toArray⟩, .bool s.opn, .slice s.A s.n s.c]]) w' → wpList Try.prog ops Q rest (a.put oo.dst (.tuple #[.bool true, .string ⟨x.toArray⟩, .agg #[.int .i64 s.kind, .int .i64 s.lo, .int .i64 s.hi, .string ⟨s.frm.toArray⟩, .string ⟨s.to_.toArray⟩, .bool s.opn, .slice s.A s.n s.c]])) w') :
    wpList Try.prog ops Q (oo :: rest) a w :=
  wpList_next_ranges w hg it hop 9 lawS elemR (fun l : List UInt8 => Value.string ⟨l.toArray⟩) mkR (fun key kl hk => by obtain ⟨x, hx, _⟩ := Maps.keyOf_str Try.underlying9 hk; exact ⟨x, hx⟩) (fun v y hv => by obtain ⟨s, rfl, _⟩ := elemR_inv hv; exact ⟨s, rfl⟩) b r n D left cnt hit h hDone
    (fun x s kl y w' cnt' hkey hlk hv hat hrg hlt hgr hsz hen => by
      obtain ⟨x', ex, rfl, _⟩ := Maps.keyOf_str Try.underlying9 hkey
      obtain rfl : x = x' := by simpa using ex
      obtain ⟨s', e1, rfl⟩ := elemR_inv hv
      obtain rfl := mkR_inj e1
      exact hMore x s w' cnt' hlk hat hrg hlt hgr hsz hen)
instance (f : List Pr) (S : List UInt8 → Sp) : Decidable (Fil.Void f S) := inferInstanceAs (Decidable (∃ p ∈ f, _ = _))
theorem Spm.kind {w : World} {D : DataW Rw} {f : List Pr} {S : List UInt8 → Sp} (h : Spm w D f S) {x : List UInt8} {r : Rw} (hat : ∀ z, D.atKey (.string x) z = .held r) : Fil.Asked f x ∧ ∃ A c, r = rw_ (S x) A c ∧ (S x).no.length ≤ c ∧ RdW w A (S x).no := by
  have ha := (h.has x).1 (has_true_of_atKey hat)
  obtain ⟨_, _, A, c, h3, h4, h5⟩ := h.all x ha
  have e := (hat .nil).symm.trans (h3 .nil)
  injection e with e
  exact ⟨ha, A, c, e, h4, h5⟩
theorem left_next {left : Lit → Bool} {x n : List UInt8} (h : (left (.string n) && !(Lit.string n).sameKey (.string x)) = false) : n = x ∨ left (.string n) = false := by
  by_cases e : n = x
  · exact .inl e
  · rw [sameKey_ne (by simpa using e)] at h
    simp at h
    exact .inr h
set_option maxRecDepth 100000 in
set_option maxHeartbeats 1000000 in
theorem anyEmpty_at (b : Nat) (f : List Pr) (S : List UInt8 → Sp) (w : World) (h : SpMap w b f S) (q : Bool) (hq : decide (Fil.Void f S) = q) :
    Calls Try.prog 30 #[.map (some b)] w fun e w' => e = .returned (.bool q) ∧ Below w.heap.size w w' := by
  subst hq
  obtain ⟨m, D, hown, _, hS⟩ := h
  have HS := Lib.hid hS
  clear hS
  have hbl := World.ownsMap.lt hown
  go_enter Try.func30, Try.ntmps30
  go_wp2_with (first | (at_range; refine wpList_range_own _ rfl _ 53 rfl 9 58 lawS Try.underlying53 _ b m _ rfl hown ?_; intro w0 hrg0 hg0 hs0) | go_in)
  go_frame
  go_loopw [4] (fun _ wr => ∃ (left : Lit → Bool) (cnt : Nat), wr.ranges Try.prog 9 elemR b w.heap.size m D left cnt ∧ Hid (∀ n, Fil.Asked f n → left (.string n) = false → (S n).kind ≠ 0) ∧ Hid (Below w.heap.size w wr)) (fun _ wr => wr.rangeLeft b w.heap.size)
  case atStart => exact ⟨_, _, hrg0, fun n hn hl => (by rw [(HS.out.has n).2 hn] at hl; cases hl), (Below.refl _ _).grown hg0 (Nat.le_refl _) (fun j hj => by cases hj)⟩
  case round =>
    obtain ⟨left, cnt, hrg, HL, HB⟩ := hrel
    clear hrg0 hg0 hs0
    go_wp2_with (first | (at_next; refine wpList_next_S rfl _ rfl b w.heap.size m D left cnt rfl hrg ?_ ?_) | go_in)
    · intro _ hl0
      have HF : Hid (¬ Fil.Void f S) := fun ⟨p, hp, e⟩ => HL.out p.n ⟨p, hp, rfl⟩ (hl0 _) e
      clear hl0 hrg
      go_wp2_with fail
      go_ret
      exact ⟨ret_b (decide_eq_false HF.out).symm, HB.out⟩
    · intro x s w1 cnt1 hlx hat hrg1 hlt hg1 hs1 hen
      obtain ⟨hax, A', c', hr, _⟩ := HS.out.kind hat
      have hKS : Hid (s.kind = (S x).kind) := congrArg Rw.kind hr
      have HB1 : Hid (Below w.heap.size w w1) := HB.out.grown hg1 HB.out.size (fun j hj => by cases hj; exact Nat.le_refl _)
      have HB2 := Lib.hid (HB1.out.alloc HB1.out.size (.cells #[.int .i64 s.kind, .int .i64 s.lo, .int .i64 s.hi, .string ⟨s.frm.toArray⟩, .string ⟨s.to_.toArray⟩, .bool s.opn, .slice s.A s.n s.c] 58))
      have hrg2 := hrg1.alloc (.cells #[.int .i64 s.kind, .int .i64 s.lo, .int .i64 s.hi, .string ⟨s.frm.toArray⟩, .string ⟨s.to_.toArray⟩, .bool s.opn, .slice s.A s.n s.c] 58)
      clear hs1 hat hg1 hrg1 hr
      by_cases hK : s.kind = 0
      · have v1 : (s.kind == 0) = true := beq_iff_eq.2 hK
        have HF : Hid (Fil.Void f S) := by
          obtain ⟨p, hp, e⟩ := hax
          subst e
          exact ⟨p, hp, hKS.out.symm.trans hK⟩
        clear hK
        go_wp2_with fail
        go_ret
        exact ⟨ret_b (decide_eq_true HF.out).symm, HB2.out⟩
      · have v1 : (s.kind == 0) = false := beq_eq_false_iff_ne.2 hK
        have HL2 : Hid (∀ n, Fil.Asked f n → (left (.string n) && !(Lit.string n).sameKey (.string x)) = false → (S n).kind ≠ 0) := fun n hn h => by
          rcases left_next h with e | e
          · subst e; rw [← hKS.out]; exact hK
          · exact HL.out n hn e
        go_wp2_with fail
        go_roundw
        case rel => exact ⟨_, cnt1, hrg2, HL2, HB2⟩
        case measure => rw [hrg2.left_eq, hrg.left_eq]; exact hlt
end Go.Proofs.Ytckabmlilbkmbaa
