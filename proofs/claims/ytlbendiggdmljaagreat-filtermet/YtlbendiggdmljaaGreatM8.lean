/- Contracts of the program and of the document (GMap, GRng, GIter), each used further on. -/
import Derived.Maps.RangeWalk
import Derived.Maps.Ext
import Derived.Maps.OwnSet
import Derived.Sort.KeysCollected
import Derived.Sort.Walk0
import Derived.Deep.LoopGhost
import Derived.Shelf.SlIter.Nil
import Derived.Shelf.SortM.Plain
import Derived.Shelf.SortM.SortNone
import Derived.Test.YtlbendiggdmljaaGreatProg
import Derived.Shelf.SlGeneric
import Derived.Test.YtlbendiggdmljaaGreatM3
namespace Go.Proofs.YtlbendiggdmljaaGreat
open Go.RowKit Go.Maps Go.WideMaps Spans Op
theorem lawS : Keyed Tryz.prog 9 := string_keyed Tryz.underlying9
/-- The fields of a span by value, and where its row lies. -/
structure Rw where
  kind : Int
  lo : Int
  hi : Int
  frm : List UInt8
  to_ : List UInt8
  opn : Bool
  A : Option Addr
  n : Nat
  c : Nat
def mkR (r : Rw) : Value := spF r.kind r.lo r.hi r.frm r.to_ r.opn r.A r.n r.c
theorem mkR_inj {r s : Rw} (h : mkR r = mkR s) : r = s := by
  cases r; cases s
  simp only [mkR] at h
  injection h with h
  simp at h
  simp_all
open Classical in
/-- How a span in a map is read: by its fields. -/
noncomputable def elemR (v : Value) : Option (DataW Rw × List MemPlace) := if h : ∃ r, v = mkR r then some (.held (Classical.choose h), []) else none
theorem elemR_mk (r : Rw) : elemR (mkR r) = some (.held r, []) := by
  have h : ∃ s, mkR r = mkR s := ⟨r, rfl⟩
  unfold elemR
  rw [dif_pos h]
  have := mkR_inj (Classical.choose_spec h)
  rw [← this]
theorem elemR_inv {v : Value} {y : DataW Rw × List MemPlace} (h : elemR v = some y) : ∃ r, v = mkR r ∧ y = (.held r, []) := by
  unfold elemR at h
  by_cases hr : ∃ r, v = mkR r
  · rw [dif_pos hr] at h
    injection h with h
    exact ⟨_, Classical.choose_spec hr, h.symm⟩
  · rw [dif_neg hr] at h; cases h
def zeroRw : Rw := ⟨0, 0, 0, [], [], false, none, 0, 0⟩
theorem zeroSp (w : World) : (zeroValue 64).run Tryz.prog w = .ok (mkR zeroRw) w := by kernel_rfl
/-- The fields of a span whose row lies there. -/
def rw_ (a : Sp) (A : Option Addr) (c : Nat) : Rw := ⟨a.kind, a.lo, a.hi, a.frm, a.to_, a.opn, A, a.no.length, c⟩
abbrev OwnM (w : World) (b m : Nat) (D : DataW Rw) : Prop := w.ownsMap Tryz.prog 9 elemR b m D
/-- What a map of a filter's spans holds. -/
structure Spm (w : World) (D : DataW Rw) (f : List Pr) (S : List UInt8 → Sp) : Prop where
  map : IsMap D
  has : ∀ n, Maps.has D (.string n) = true ↔ Fil.Asked f n
  all : ∀ n, Fil.Asked f n → IsAll (Fil.of f n) (S n) ∧ (S n).no.length ≤ f.length ∧ ∃ A c, (∀ z, D.atKey (.string n) z = .held (rw_ (S n) A c)) ∧ (S n).no.length ≤ c ∧ RdW w A (S n).no
theorem Spm.below {w w' : World} {D : DataW Rw} {f : List Pr} {S : List UInt8 → Sp} (h : Spm w D f S) (hb : Below w.heap.size w w') : Spm w' D f S :=
  ⟨h.map, h.has, fun n hn => by
    obtain ⟨h1, h2, A, c, h3, h4, h5⟩ := h.all n hn
    exact ⟨h1, h2, A, c, h3, h4, h5.below hb⟩⟩
theorem Spm.spans {w : World} {D : DataW Rw} {f : List Pr} {S : List UInt8 → Sp} (h : Spm w D f S) : Fil.IsSpans f S := fun n hn => (h.all n hn).1
/-- A map that lies in a block, of a filter's spans. -/
def SpMap (w : World) (b : Nat) (f : List Pr) (S : List UInt8 → Sp) : Prop := ∃ m D, OwnM w b m D ∧ m ≤ f.length ∧ Spm w D f S
theorem OwnM.below {w w' : World} {b m : Nat} {D : DataW Rw} (h : OwnM w b m D) (hb : Below w.heap.size w w') : OwnM w' b m D := by
  obtain ⟨es, clock, h1, h2⟩ := h
  exact ⟨es, clock, (hb.block b (Array.getElem?_eq_some_iff.1 h1).1).trans h1, h2⟩
theorem SpMap.below {w w' : World} {b : Nat} {f : List Pr} {S : List UInt8 → Sp} (h : SpMap w b f S) (hb : Below w.heap.size w w') : SpMap w' b f S := by
  obtain ⟨m, D, h1, h2, h3⟩ := h
  exact ⟨m, D, OwnM.below h1 hb, h2, h3.below hb⟩
theorem SpMap.lt {w : World} {b : Nat} {f : List Pr} {S : List UInt8 → Sp} (h : SpMap w b f S) : b < w.heap.size := by
  obtain ⟨m, D, h1, _⟩ := h
  exact World.ownsMap.lt h1
theorem keyN {n : List UInt8} (h : n.length ≤ 9223372036854775807) : keyOf Tryz.prog 9 (.string ⟨n.toArray⟩) = some (.string n) :=
  keyOf_string_mk Tryz.underlying9 (by show n.toArray.size ≤ _; rw [maxLen_num]; simp; omega)
/-- A look-up of a name that is there. -/
theorem look_yes {w : World} {b m : Nat} {D : DataW Rw} {n : List UInt8} {r : Rw} (h : OwnM w b m D) (hn : n.length ≤ 9223372036854775807) (hr : ∀ z, D.atKey (.string n) z = .held r) :
    (Instr.lookup 54 (.map (some b)) (.string ⟨n.toArray⟩) true).run Tryz.prog w = .ok (.tuple #[mkR r, .bool true]) w ∧ (Instr.lookup 54 (.map (some b)) (.string ⟨n.toArray⟩) false).run Tryz.prog w = .ok (mkR r) w := by
  have hh : Maps.has D (.string n) = true := has_true_of_atKey hr
  obtain ⟨v, ps, hrun, hv⟩ := World.ownsMap.look_ok h lawS Tryz.underlying54 (zeroSp w) (elemR_mk zeroRw) (keyN hn)
  obtain ⟨v', ps', hrun', hv'⟩ := World.ownsMap.lookup h lawS Tryz.underlying54 (zeroSp w) (elemR_mk zeroRw) (keyN hn)
  rw [hr] at hv hv'
  obtain ⟨s, rfl, hs⟩ := elemR_inv hv
  obtain ⟨s', rfl, hs'⟩ := elemR_inv hv'
  simp only [Prod.mk.injEq, DataW.held.injEq] at hs hs'
  obtain ⟨rfl, _⟩ := hs
  obtain ⟨rfl, _⟩ := hs'
  rw [hh] at hrun
  exact ⟨hrun, hrun'⟩
/-- A look-up of a name that is not there. -/
theorem look_no {w : World} {b m : Nat} {D : DataW Rw} {n : List UInt8} (h : OwnM w b m D) (hn : n.length ≤ 9223372036854775807) (hh : Maps.has D (.string n) = false) :
    (Instr.lookup 54 (.map (some b)) (.string ⟨n.toArray⟩) true).run Tryz.prog w = .ok (.tuple #[spF 0 0 0 [] [] false none 0 0, .bool false]) w := by
  obtain ⟨v, ps, hrun, hv⟩ := World.ownsMap.look_ok h lawS Tryz.underlying54 (zeroSp w) (elemR_mk zeroRw) (keyN hn)
  rw [atKey_of_not_has hh] at hv
  obtain ⟨s, rfl, hs⟩ := elemR_inv hv
  simp only [Prod.mk.injEq, DataW.held.injEq] at hs
  obtain ⟨rfl, _⟩ := hs
  rw [hh] at hrun
  exact hrun
theorem isKey (n : List UInt8) : WideAt.IsKeyLit (.string n) := trivial
/-- One predicate more. -/
theorem Spm.snoc {w : World} {D : DataW Rw} {f : List Pr} {S : List UInt8 → Sp} {p : Pr} {a : Sp} {A : Option Addr} {c : Nat} (h : Spm w D f S) (ha : IsAll (Fil.of f p.n ++ [p]) a) (hl : a.no.length ≤ f.length + 1) (hc : a.no.length ≤ c) (hr : RdW w A a.no) :
    Spm w (D.put (.string p.n) (.held (rw_ a A c))) (f ++ [p]) (fun n => if n = p.n then a else S n) where
  map := h.map.put _ _
  has := fun n => by
    by_cases hn : n = p.n
    · subst hn
      rw [has_put_same h.map (isKey _)]
      exact ⟨fun _ => Fil.asked_app.2 (.inr ⟨p, by simp, rfl⟩), fun _ => rfl⟩
    · rw [has_put_other (by simpa using hn), h.has n, Fil.asked_app]
      exact ⟨.inl, fun k => k.resolve_right fun ⟨q, hq, e⟩ => by simp at hq; subst hq; exact hn e.symm⟩
  all := fun n hn => by
    by_cases e : n = p.n
    · subst e
      rw [if_pos rfl]
      refine ⟨?_, by simp; omega, A, c, fun z => atKey_put_same h.map (isKey _) _ _, hc, hr⟩
      rw [Fil.of_app]
      have : Fil.of [p] p.n = [p] := by simp [Fil.of]
      rw [this]
      exact ha
    · rw [if_neg e]
      have hn' : Fil.Asked f n := (Fil.asked_app.1 hn).resolve_right fun ⟨q, hq, k⟩ => by simp at hq; subst hq; exact e k.symm
      obtain ⟨h1, h2, A', c', h3, h4, h5⟩ := h.all n hn'
      refine ⟨?_, by simp; omega, A', c', fun z => by rw [atKey_put_other (by simpa using e)]; exact h3 z, h4, h5⟩
      rw [Fil.of_app]
      have : Fil.of [p] n = [] := by simp [Fil.of]; exact fun k => e k.symm
      rw [this, List.append_nil]
      exact h1
theorem of_none {f : List Pr} {n : List UInt8} (h : ¬ Fil.Asked f n) : Fil.of f n = [] := List.filter_eq_nil_iff.2 fun p hp => by simp; exact fun e => h ⟨p, hp, e⟩
/-- The keys of such a map, sorted, are the filter's names. -/
theorem names_of {w : World} {b m : Nat} {D : DataW Rw} {f : List Pr} {S : List UInt8 → Sp} (ho : OwnM w b m D) (h : Spm w D f S) {ss : List (List UInt8)} (hp : ss.Perm (strKeys D)) : Fil.IsNames f (ss.mergeSort (fun x y => decide (x ≤ y))) := by
  obtain ⟨es, rfl, hpw, hk⟩ := World.ownsMap.canon ho lawS
  have hstr : ∀ p ∈ es, ∃ x, p.1 = .string x := by
    obtain ⟨es', clock, _, F, _, hD⟩ := ho
    intro p hp
    injection hD with hD
    subst hD
    obtain ⟨x, hx, rfl⟩ := List.mem_map.1 (mem_sorted.1 hp)
    obtain ⟨y, hy⟩ := F.reads x hx
    rw [WideElems.rg_of hy]
    obtain ⟨z, _, hz, _⟩ := Maps.keyOf_str Tryz.underlying9 (WideElems.rd_key hy)
    exact ⟨z, hz⟩
  have hmem : ∀ x, x ∈ ss ↔ Fil.Asked f x := fun x => by
    rw [hp.mem_iff, ← h.has x, Maps.has_eq, List.any_eq_true]
    unfold strKeys
    rw [List.mem_map]
    constructor
    · rintro ⟨p, hpm, e⟩
      obtain ⟨y, hy⟩ := hstr p hpm
      rw [hy] at e
      refine ⟨p, hpm, ?_⟩
      rw [hy, ← e]
      exact WideAt.sameKey_self (isKey _)
    · rintro ⟨p, hpm, e⟩
      have := WideAt.sameKey_eq e
      exact ⟨p, hpm, by rw [this]; rfl⟩
  have hnd : ss.Nodup := by
    rw [hp.nodup_iff]
    unfold strKeys
    rw [List.nodup_iff_pairwise_ne, List.pairwise_map]
    refine hpw.imp_of_mem fun {a c} ha hc hac e => ?_
    obtain ⟨x, hx⟩ := hstr a ha
    obtain ⟨y, hy⟩ := hstr c hc
    rw [hx, hy] at e
    have : a.1 = c.1 := by rw [hx, hy]; exact congrArg _ e
    rw [this, WideShapes.before_irrefl] at hac
    cases hac
  refine ⟨?_, fun n => by rw [(List.mergeSort_perm ss _).mem_iff, hmem n]⟩
  have h1 := List.pairwise_mergeSort (le := fun x y : List UInt8 => decide (x ≤ y)) (fun a b c => by simp; exact List.le_trans) (fun a b => by simp; exact List.le_total a b) ss
  have h2 : (ss.mergeSort (fun x y => decide (x ≤ y))).Nodup := (List.mergeSort_perm ss _).nodup_iff.2 hnd
  refine (h1.and (List.nodup_iff_pairwise_ne.1 h2)).imp fun {a c} ⟨h3, h4⟩ => ?_
  have h5 : bytesLess c a = false := by
    rw [bytesLess_eq]
    have h3' := of_decide_eq_true h3
    exact decide_eq_false h3'
  cases h6 : bytesLess a c with
  | true => rfl
  | false => exact absurd (Vals.less_tri _ _ h6 h5) h4
end Go.Proofs.YtlbendiggdmljaaGreat
namespace Go.Proofs.YtlbendiggdmljaaGreat
open Go.RowKit Go.Maps Spans Op
/-- Predicates of names and texts that are short, and of ints of sixty-four bits. -/
def PBd (f : List Pr) : Prop := ∀ p ∈ f, p.n.length ≤ 100 ∧ p.t.length ≤ 100 ∧ -9223372036854775808 ≤ p.i ∧ p.i ≤ 9223372036854775807
theorem PBd.right {f : List Pr} (h : PBd f) {p : Pr} (hp : p ∈ f) : rightP p = Preds.right p.n p.o p.k p.i p.t := by
  obtain ⟨_, _, h1, h2⟩ := h p hp
  unfold rightP
  simp [h1, h2]
set_option maxRecDepth 100000 in
set_option maxHeartbeats 1000000 in
theorem allRight_at (A : Option Addr) (f : List Pr) (n c : Nat) (hn : f.length = n) (hm : n ≤ 100000) (hl : PBd f) (w : World) (hr : RdQ w A f) (b : Bool) (hb : decide (Fil.AllRight f) = b) :
    Calls Tryz.prog 35 #[.slice A n c] w fun e w' => e = .returned (.bool b) ∧ Below w.heap.size w w' := by
  subst hb
  have HN := Lib.hid hn
  have HLL := Lib.hid hl
  have HR := Lib.hid hr
  clear hn hl hr
  go_enter Tryz.func35, Tryz.ntmps35
  go_wp2_with fail
  go_loopg [7] n (fun gg s7 wr => ∃ k : Nat, k ≤ n ∧ n - k ≤ gg ∧ s7 = .int .i64 (k : Int) ∧ Hid (Below w.heap.size w wr) ∧ Hid (∀ p ∈ f.take k, rightP p = true))
  case atStart => exact ⟨0, Nat.zero_le _, by omega, rfl, Below.refl _ _, fun p hp => by simp at hp⟩
  case round =>
    obtain ⟨k, hk, hgg, rfl, HB, HA⟩ := hrel
    by_cases hlt : k < n
    · have hk' : k < f.length := by rw [HN.out]; exact hlt
      have hpl := HLL.out _ (List.getElem_mem hk')
      have hpr := HLL.out.right (List.getElem_mem hk')
      obtain ⟨g, off, rfl, hg, c0, c1, c2, c3, c4⟩ := RdQ.at5 (RdK.below HR.out HB.out) hk'
      obtain ⟨x, hx⟩ : ∃ x, f[k] = x := ⟨_, rfl⟩
      have HX := Lib.hid hx
      rw [hx] at c0 c1 c2 c3 c4 hpl hpr
      clear hx HLL HR
      obtain ⟨xn, xo, xk, xi, xt⟩ := x
      obtain ⟨hp1, hp2, hp3, hp4⟩ := hpl
      dsimp only at hp1 hp2 hp3 hp4 hpr c0 c1 c2 c3 c4
      have HPR := Lib.hid hpr
      clear hpr
      have w5 : (k : Int) < (n : Int) := by omega
      have HB1 := Lib.hid (HB.out.alloc (by have := HB.out.size; omega) (.cells #[.string ⟨xn.toArray⟩, .int .i64 xo, .int .i64 xk, .int .i64 xi, .string ⟨xt.toArray⟩] 35))
      cases hq : Preds.right xn xo xk xi xt with
      | true =>
        have HQ := Lib.hid hq
        clear hq
        go_wp2_with fail
        refine (pright_is xn xo xk xi xt _ (by omega) (by omega) true HQ.out).mono ?_
        rintro e w2 ⟨rfl, hb2⟩
        have HB2 := Lib.hid (below_next HB1.out (by have := HB1.out.size; omega) hb2)
        have HA2 : Hid (∀ p ∈ f.take (k + 1), rightP p = true) := by
          show ∀ p ∈ _, _
          rw [List.take_succ_eq_append_getElem hk', HX.out]
          intro p hp
          rcases List.mem_append.1 hp with hp | hp
          · exact HA.out p hp
          · simp at hp; subst hp; rw [HPR.out]; exact HQ.out
        clear hb2 c0 c1 c2 c3 c4
        go_wp2_with fail
        go_roundg (n - (k + 1))
        case measure => omega
        case rel => exact ⟨k + 1, by omega, Nat.le_refl _, by go_num, HB2, HA2⟩
      | false =>
        have HQ := Lib.hid hq
        clear hq
        go_wp2_with fail
        refine (pright_is xn xo xk xi xt _ (by omega) (by omega) false HQ.out).mono ?_
        rintro e w2 ⟨rfl, hb2⟩
        have HB2 := Lib.hid (below_next HB1.out (by have := HB1.out.size; omega) hb2)
        have HF : Hid (¬ Fil.AllRight f) := fun h => by
          have := h _ (List.getElem_mem hk')
          rw [HX.out, HPR.out, HQ.out] at this
          cases this
        clear hb2 c0 c1 c2 c3 c4
        go_wp2_with fail
        go_ret
        exact ⟨ret_b (decide_eq_false HF.out).symm, HB2.out⟩
    · have hkn : Hid (k = n) := by show k = n; omega
      go_wp2_with fail
      go_ret
      refine ⟨ret_b (decide_eq_true ?_).symm, HB.out⟩
      have := HA.out
      rwa [hkn.out, List.take_of_length_le (by rw [HN.out]; exact Nat.le_refl _)] at this
set_option maxRecDepth 100000 in
set_option maxHeartbeats 1000000 in
theorem sound_at (A : Option Addr) (f : List Pr) (n c : Nat) (hn : f.length = n) (hm : n ≤ 100000) (hl : PBd f) (w : World) (hr : RdQ w A f) (b : Bool) (hb : decide (Fil.Sound f) = b) :
    Calls Tryz.prog 47 #[.slice A n c] w fun e w' => e = .returned (.bool b) ∧ Below w.heap.size w w' := by
  subst hb
  have HN := Lib.hid hn
  by_cases h24 : n ≤ 24
  · have hc := fun W hW => allRight_at A f n c hn hm hl W hW _ rfl
    have HS : Hid (decide (Fil.Sound f) = decide (Fil.AllRight f)) := decide_eq_decide.2 ⟨fun h => h.2, fun h => ⟨by rw [HN.out]; exact h24, h⟩⟩
    clear hn hl
    go_enter Tryz.func47, Tryz.ntmps47
    go_wp2_with fail
    refine (hc _ hr).mono ?_
    rintro e w2 ⟨rfl, hb2⟩
    clear hc
    go_wp2_with fail
    go_ret
    exact ⟨ret_b (by rw [HS.out]), hb2⟩
  · have HS : Hid (decide (Fil.Sound f) = false) := decide_eq_false fun h => h24 (by have := h.1; rw [HN.out] at this; exact this)
    clear hn hl hr
    go_enter Tryz.func47, Tryz.ntmps47
    go_wp2_with fail
    go_ret
    exact ⟨ret_b (by rw [HS.out]), Below.refl _ _⟩
/-- THE STEP of a range over a map of spans. -/
theorem wpList_next_S {w : World} {ops : Array Oper} {rest : List Oper} {oo : Oper} {a : Act} {Q : Exit → Act → World → Prop} (hg : oo.guard = none) (it : Operand) (hop : oo.op = Op.next it false) (b r n : Nat) (D : DataW Rw) (left : Lit → Bool) (cnt : Nat)
    (hit : a.eval it = .pointer (some ⟨r, 0, none⟩)) (h : w.ranges Tryz.prog 9 elemR b r n D left cnt)
    (hDone : cnt = 0 → (∀ kl, left kl = false) → wpList Tryz.prog ops Q rest (a.put oo.dst (.tuple #[.bool false])) w)
    (hMore : ∀ (x : List UInt8) (s : Rw) (w' : World) (cnt' : Nat), left (.string x) = true → (∀ zd, D.atKey (.string x) zd = .held s) → w'.ranges Tryz.prog 9 elemR b r n D (fun z => left z && !z.sameKey (.string x)) cnt' → cnt' < cnt →
      w.grownBy w' (some r) → w'.heap.size = w.heap.size → (Instr.entry (.pointer (some ⟨r, 0, none⟩))).run Tryz.prog w' = .ok (.tuple #[.string ⟨x.toArray⟩, .agg #[.int .i64 s.kind, .int .i64 s.lo, .int .i64 s.hi, .string ⟨s.frm.toArray⟩, .string ⟨s.to_.toArray⟩, .bool s.opn, .slice s.A s.n s.c]]) w' → wpList Tryz.prog ops Q rest (a.put oo.dst (.tuple #[.bool true, .string ⟨x.toArray⟩, .agg #[.int .i64 s.kind, .int .i64 s.lo, .int .i64 s.hi, .string ⟨s.frm.toArray⟩, .string ⟨s.to_.toArray⟩, .bool s.opn, .slice s.A s.n s.c]])) w') :
    wpList Tryz.prog ops Q (oo :: rest) a w :=
  wpList_next_ranges w hg it hop 9 lawS elemR (fun l : List UInt8 => Value.string ⟨l.toArray⟩) mkR (fun key kl hk => by obtain ⟨x, hx, _⟩ := Maps.keyOf_str Tryz.underlying9 hk; exact ⟨x, hx⟩) (fun v y hv => by obtain ⟨s, rfl, _⟩ := elemR_inv hv; exact ⟨s, rfl⟩) b r n D left cnt hit h hDone
    (fun x s kl y w' cnt' hkey hlk hv hat hrg hlt hgr hsz hen => by
      obtain ⟨x', ex, rfl, _⟩ := Maps.keyOf_str Tryz.underlying9 hkey
      obtain rfl : x = x' := by simpa using ex
      obtain ⟨s', e1, rfl⟩ := elemR_inv hv
      obtain rfl := mkR_inj e1
      exact hMore x s w' cnt' hlk hat hrg hlt hgr hsz hen)
instance (f : List Pr) (S : List UInt8 → Sp) : Decidable (Fil.Void f S) := inferInstanceAs (Decidable (∃ p ∈ f, _ = _))
theorem Spm.kind {w : World} {D : DataW Rw} {f : List Pr} {S : List UInt8 → Sp} (h : Spm w D f S) {x : List UInt8} {r : Rw} (hat : ∀ z, D.atKey (.string x) z = .held r) : Fil.Asked f x ∧ ∃ A c, r = rw_ (S x) A c ∧ (S x).no.length ≤ c ∧ RdW w A (S x).no := by
  have ha := (h.has x).1 (has_true_of_atKey hat)
  obtain ⟨_, _, A, c, h3, h4, h5⟩ := h.all x ha
  have e := (hat .nil).symm.trans (h3 .nil)
  injection e with e
  exact ⟨ha, A, c, e, h4, h5⟩
theorem left_next {left : Lit → Bool} {x n : List UInt8} (h : (left (.string n) && !(Lit.string n).sameKey (.string x)) = false) : n = x ∨ left (.string n) = false := by
  by_cases e : n = x
  · exact .inl e
  · rw [sameKey_ne (by simpa using e)] at h
    simp at h
    exact .inr h
set_option maxRecDepth 100000 in
set_option maxHeartbeats 1000000 in
theorem anyEmpty_at (b : Nat) (f : List Pr) (S : List UInt8 → Sp) (w : World) (h : SpMap w b f S) (q : Bool) (hq : decide (Fil.Void f S) = q) :
    Calls Tryz.prog 37 #[.map (some b)] w fun e w' => e = .returned (.bool q) ∧ Below w.heap.size w w' := by
  subst hq
  obtain ⟨m, D, hown, _, hS⟩ := h
  have HS := Lib.hid hS
  clear hS
  have hbl := World.ownsMap.lt hown
  go_enter Tryz.func37, Tryz.ntmps37
  go_wp2_with (first | (at_range; refine wpList_range_own _ rfl _ 54 rfl 9 64 lawS Tryz.underlying54 _ b m _ rfl hown ?_; intro w0 hrg0 hg0 hs0) | go_in)
  go_frame
  go_loopw [4] (fun _ wr => ∃ (left : Lit → Bool) (cnt : Nat), wr.ranges Tryz.prog 9 elemR b w.heap.size m D left cnt ∧ Hid (∀ n, Fil.Asked f n → left (.string n) = false → (S n).kind ≠ 0) ∧ Hid (Below w.heap.size w wr)) (fun _ wr => wr.rangeLeft b w.heap.size)
  case atStart => exact ⟨_, _, hrg0, fun n hn hl => (by rw [(HS.out.has n).2 hn] at hl; cases hl), (Below.refl _ _).grown hg0 (Nat.le_refl _) (fun j hj => by cases hj)⟩
  case round =>
    obtain ⟨left, cnt, hrg, HL, HB⟩ := hrel
    clear hrg0 hg0 hs0
    go_wp2_with (first | (at_next; refine wpList_next_S rfl _ rfl b w.heap.size m D left cnt rfl hrg ?_ ?_) | go_in)
    · intro _ hl0
      have HF : Hid (¬ Fil.Void f S) := fun ⟨p, hp, e⟩ => HL.out p.n ⟨p, hp, rfl⟩ (hl0 _) e
      clear hl0 hrg
      go_wp2_with fail
      go_ret
      exact ⟨ret_b (decide_eq_false HF.out).symm, HB.out⟩
    · intro x s w1 cnt1 hlx hat hrg1 hlt hg1 hs1 hen
      obtain ⟨hax, A', c', hr, _⟩ := HS.out.kind hat
      have hKS : Hid (s.kind = (S x).kind) := congrArg Rw.kind hr
      have HB1 : Hid (Below w.heap.size w w1) := HB.out.grown hg1 HB.out.size (fun j hj => by cases hj; exact Nat.le_refl _)
      have HB2 := Lib.hid (HB1.out.alloc HB1.out.size (.cells #[.int .i64 s.kind, .int .i64 s.lo, .int .i64 s.hi, .string ⟨s.frm.toArray⟩, .string ⟨s.to_.toArray⟩, .bool s.opn, .slice s.A s.n s.c] 64))
      have hrg2 := hrg1.alloc (.cells #[.int .i64 s.kind, .int .i64 s.lo, .int .i64 s.hi, .string ⟨s.frm.toArray⟩, .string ⟨s.to_.toArray⟩, .bool s.opn, .slice s.A s.n s.c] 64)
      clear hs1 hat hg1 hrg1 hr
      by_cases hK : s.kind = 0
      · have v1 : (s.kind == 0) = true := beq_iff_eq.2 hK
        have HF : Hid (Fil.Void f S) := by
          obtain ⟨p, hp, e⟩ := hax
          subst e
          exact ⟨p, hp, hKS.out.symm.trans hK⟩
        clear hK
        go_wp2_with fail
        go_ret
        exact ⟨ret_b (decide_eq_true HF.out).symm, HB2.out⟩
      · have v1 : (s.kind == 0) = false := beq_eq_false_iff_ne.2 hK
        have HL2 : Hid (∀ n, Fil.Asked f n → (left (.string n) && !(Lit.string n).sameKey (.string x)) = false → (S n).kind ≠ 0) := fun n hn h => by
          rcases left_next h with e | e
          · subst e; rw [← hKS.out]; exact hK
          · exact HL.out n hn e
        go_wp2_with fail
        go_roundw
        case rel => exact ⟨_, cnt1, hrg2, HL2, HB2⟩
        case measure => rw [hrg2.left_eq, hrg.left_eq]; exact hlt
end Go.Proofs.YtlbendiggdmljaaGreat
namespace Go.Proofs
open Go.Shelf
def Tryz.keys69_ren : Go.Shelf.Ren := ⟨fun | 7 => 69 | 10 => 108 | n => n, fun | 23 => 54 | 26 => 9 | 3 => 64 | 28 => 90 | 0 => 0 | 27 => 89 | 33 => 118 | 4 => 4 | n => n, fun | n => n⟩
theorem Tryz.keys69 : Go.Proofs.SlLaysZ.n7 Tryz.prog Tryz.keys69_ren := {
  mixed := by kernel_rfl
  f7 := ⟨Tryz.f69.name, by decide, Tryz.func69.trans (congrArg some (by kernel_rfl))⟩
  f10 := ⟨Tryz.f108.name, by decide, Tryz.func108.trans (congrArg some (by kernel_rfl))⟩
  t0 := Tryz.underlying0
  a0 := Tryz.isAgg0
  z0 := Tryz.sizeOf0
  v0 := Tryz.zeroValue0
  t4 := Tryz.underlying4
  a4 := Tryz.isAgg4
  z4 := Tryz.sizeOf4
  v4 := Tryz.zeroValue4
  t23 := Tryz.underlying54
  a23 := Tryz.isAgg54
  z23 := Tryz.sizeOf54
  v23 := Tryz.zeroValue54
  t26 := Tryz.underlying9
  a26 := Tryz.isAgg9
  z26 := Tryz.sizeOf9
  v26 := Tryz.zeroValue9
  t27 := Tryz.underlying89
  a27 := Tryz.isAgg89
  z27 := Tryz.sizeOf89
  v27 := Tryz.zeroValue89
  t28 := Tryz.underlying90
  a28 := Tryz.isAgg90
  z28 := Tryz.sizeOf90
  v28 := Tryz.zeroValue90
  t33 := Tryz.underlying118
  a33 := Tryz.isAgg118
  z33 := Tryz.sizeOf118
  v33 := Tryz.zeroValue118 }
def Tryz.sorted68_ren : Go.Shelf.Ren := ⟨fun | 6 => 68 | 8 => 106 | 9 => 107 | 11 => 138 | 13 => 140 | 12 => 139 | 23 => 165 | 24 => 148 | 14 => 156 | 15 => 157 | 16 => 158 | 17 => 159 | 18 => 160 | 19 => 161 | 20 => 162 | 21 => 163 | 22 => 164 | 25 => 180 | 26 => 181 | 27 => 182 | 28 => 183 | 29 => 184 | 30 => 168 | 31 => 189 | n => n, fun | 26 => 9 | 28 => 90 | 24 => 59 | 0 => 0 | 3 => 3 | 37 => 139 | 48 => 154 | 50 => 73 | 4 => 4 | 40 => 147 | 39 => 146 | 45 => 151 | 5 => 5 | 9 => 9 | 51 => 164 | 55 => 167 | 57 => 172 | 58 => 173 | 33 => 118 | n => n, fun | n => n⟩
theorem Tryz.sorted68 : Go.Proofs.SlLaysZ.n6 Tryz.prog Tryz.sorted68_ren := {
  mixed := by kernel_rfl
  f6 := ⟨Tryz.f68.name, by decide, Tryz.func68.trans (congrArg some (by kernel_rfl))⟩
  f8 := ⟨Tryz.f106.name, by decide, Tryz.func106.trans (congrArg some (by kernel_rfl))⟩
  f11 := ⟨Tryz.f138.name, by decide, Tryz.func138.trans (congrArg some (by kernel_rfl))⟩
  t0 := Tryz.underlying0
  a0 := Tryz.isAgg0
  z0 := Tryz.sizeOf0
  v0 := Tryz.zeroValue0
  t24 := Tryz.underlying59
  a24 := Tryz.isAgg59
  z24 := Tryz.sizeOf59
  v24 := Tryz.zeroValue59
  t26 := Tryz.underlying9
  a26 := Tryz.isAgg9
  z26 := Tryz.sizeOf9
  v26 := Tryz.zeroValue9
  t28 := Tryz.underlying90
  a28 := Tryz.isAgg90
  z28 := Tryz.sizeOf90
  v28 := Tryz.zeroValue90
  i26 := by kernel_rfl }
def Tryz.sort107_ren : Go.Shelf.Ren := ⟨fun | 6 => 107 | 8 => 140 | 9 => 139 | 19 => 165 | 20 => 148 | 21 => 156 | 22 => 157 | 23 => 158 | 24 => 159 | 25 => 160 | 26 => 161 | 27 => 162 | 28 => 163 | 29 => 164 | 36 => 180 | 31 => 181 | 32 => 182 | 37 => 183 | 38 => 184 | 39 => 168 | 41 => 189 | n => n, fun | 27 => 59 | 29 => 9 | 3 => 3 | 32 => 139 | 26 => 59 | 0 => 0 | 44 => 154 | 46 => 73 | 4 => 4 | 36 => 147 | 35 => 146 | 41 => 151 | 5 => 5 | 9 => 9 | 53 => 164 | 57 => 167 | 63 => 172 | 64 => 173 | n => n, fun | n => n⟩
theorem Tryz.sort107 : Go.Proofs.SlLaysM.n6 Tryz.prog Tryz.sort107_ren := {
  mixed := by kernel_rfl
  f6 := ⟨Tryz.f107.name, by decide, Tryz.func107.trans (congrArg some (by kernel_rfl))⟩
  f8 := Tryz.func140.trans (congrArg some (by kernel_rfl))
  f9 := ⟨Tryz.f139.name, by decide, Tryz.func139.trans (congrArg some (by kernel_rfl))⟩
  f19 := Tryz.func165.trans (congrArg some (by kernel_rfl))
  f20 := Tryz.func148.trans (congrArg some (by kernel_rfl))
  f21 := ⟨Tryz.f156.name, by decide, Tryz.func156.trans (congrArg some (by kernel_rfl))⟩
  f22 := ⟨Tryz.f157.name, by decide, Tryz.func157.trans (congrArg some (by kernel_rfl))⟩
  f23 := ⟨Tryz.f158.name, by decide, Tryz.func158.trans (congrArg some (by kernel_rfl))⟩
  f24 := ⟨Tryz.f159.name, by decide, Tryz.func159.trans (congrArg some (by kernel_rfl))⟩
  f25 := ⟨Tryz.f160.name, by decide, Tryz.func160.trans (congrArg some (by kernel_rfl))⟩
  f26 := ⟨Tryz.f161.name, by decide, Tryz.func161.trans (congrArg some (by kernel_rfl))⟩
  f27 := ⟨Tryz.f162.name, by decide, Tryz.func162.trans (congrArg some (by kernel_rfl))⟩
  f28 := ⟨Tryz.f163.name, by decide, Tryz.func163.trans (congrArg some (by kernel_rfl))⟩
  f29 := ⟨Tryz.f164.name, by decide, Tryz.func164.trans (congrArg some (by kernel_rfl))⟩
  f31 := Tryz.func181.trans (congrArg some (by kernel_rfl))
  f32 := Tryz.func182.trans (congrArg some (by kernel_rfl))
  f36 := ⟨Tryz.f180.name, by decide, Tryz.func180.trans (congrArg some (by kernel_rfl))⟩
  f37 := ⟨Tryz.f183.name, by decide, Tryz.func183.trans (congrArg some (by kernel_rfl))⟩
  f38 := ⟨Tryz.f184.name, by decide, Tryz.func184.trans (congrArg some (by kernel_rfl))⟩
  f39 := ⟨Tryz.f168.name, by decide, Tryz.func168.trans (congrArg some (by kernel_rfl))⟩
  f41 := ⟨Tryz.f189.name, by decide, Tryz.func189.trans (congrArg some (by kernel_rfl))⟩
  t0 := Tryz.underlying0
  a0 := Tryz.isAgg0
  z0 := Tryz.sizeOf0
  v0 := Tryz.zeroValue0
  t3 := Tryz.underlying3
  a3 := Tryz.isAgg3
  z3 := Tryz.sizeOf3
  v3 := Tryz.zeroValue3
  t4 := Tryz.underlying4
  a4 := Tryz.isAgg4
  z4 := Tryz.sizeOf4
  v4 := Tryz.zeroValue4
  t5 := Tryz.underlying5
  a5 := Tryz.isAgg5
  z5 := Tryz.sizeOf5
  v5 := Tryz.zeroValue5
  t9 := Tryz.underlying9
  a9 := Tryz.isAgg9
  z9 := Tryz.sizeOf9
  v9 := Tryz.zeroValue9
  t26 := Tryz.underlying59
  a26 := Tryz.isAgg59
  z26 := Tryz.sizeOf59
  v26 := Tryz.zeroValue59
  t27 := Tryz.underlying59
  a27 := Tryz.isAgg59
  z27 := Tryz.sizeOf59
  v27 := Tryz.zeroValue59
  t29 := Tryz.underlying9
  a29 := Tryz.isAgg9
  z29 := Tryz.sizeOf9
  v29 := Tryz.zeroValue9
  t32 := Tryz.underlying139
  a32 := Tryz.isAgg139
  z32 := Tryz.sizeOf139
  v32 := Tryz.zeroValue139
  t35 := Tryz.underlying146
  a35 := Tryz.isAgg146
  z35 := Tryz.sizeOf146
  v35 := Tryz.zeroValue146
  t36 := Tryz.underlying147
  a36 := Tryz.isAgg147
  z36 := Tryz.sizeOf147
  v36 := Tryz.zeroValue147
  t41 := Tryz.underlying151
  a41 := Tryz.isAgg151
  z41 := Tryz.sizeOf151
  v41 := Tryz.zeroValue151
  t44 := Tryz.underlying154
  a44 := Tryz.isAgg154
  z44 := Tryz.sizeOf154
  v44 := Tryz.zeroValue154
  t46 := Tryz.underlying73
  a46 := Tryz.isAgg73
  z46 := Tryz.sizeOf73
  v46 := Tryz.zeroValue73
  t53 := Tryz.underlying164
  a53 := Tryz.isAgg164
  z53 := Tryz.sizeOf164
  v53 := Tryz.zeroValue164
  t57 := Tryz.underlying167
  a57 := Tryz.isAgg167
  z57 := Tryz.sizeOf167
  v57 := Tryz.zeroValue167
  t63 := Tryz.underlying172
  a63 := Tryz.isAgg172
  z63 := Tryz.sizeOf172
  v63 := Tryz.zeroValue172
  t64 := Tryz.underlying173
  a64 := Tryz.isAgg173
  z64 := Tryz.sizeOf173
  v64 := Tryz.zeroValue173 }
end Go.Proofs
namespace Go.Proofs
open Go.RowKit Go.Maps Go.Sort Go.Shelf
/-- slices.Sort's two contracts at this dump, at the fence that asks nothing. -/
theorem Tryz.sorts68 (m : Nat) : AnyZ.SortsIn Tryz.prog Tryz.sorted68_ren Fence.wide m :=
  ⟨fun blk off cap ss W hH hblk hsz => callsIn_wide.2 (AnyM.slices_Sort_string Tryz.sort107 blk off cap ss W hH hblk hsz),
   fun p cap W => callsIn_wide.2 (AnyM.slices_Sort_string_none Tryz.sort107 p cap W)⟩
/-- **maps.Keys[map[string]rosette/api.Span,string,rosette/api.Span], at whatever map, the nil one too:** a function value over ONE NEW BLOCK, which holds the map. -/
theorem Tryz.maps_Keys_69 (mb : Option Nat) (W : World) : CallsIn Fence.wide 5 Tryz.prog 69 #[.map mb] W fun e w' => e = .returned (.func (.func 108) #[] #[.pointer (some ⟨W.heap.size, 0, none⟩)]) ∧ w' = W.alloc (.cells #[.map mb] 54) :=
  AnyZ.keys_in Tryz.keys69 Fence.wide 5 trivial rfl mb W
set_option maxHeartbeats 1000000 in
/-- **slices.Sorted[string] AT WHAT maps.Keys[map[string]rosette/api.Span,string,rosette/api.Span] HANDED BACK FOR A MAP THAT IS NOT nil** ('w': the world AHEAD of maps.Keys' call): A NEW SLICE THAT HOLDS THE MAP's KEYS, SORTED; nil just where it has none; nothing that lay before has turned. -/
theorem Tryz.slices_Sorted_keys_68_69 {H : Type} (b nn : Nat) (D0 : DataW H) (R : Value → Option (DataW H × List MemPlace)) (w : World) (hown : w.ownsMap Tryz.prog 9 R b nn D0) (hmax : Maps.size D0 ≤ maxLen) (hbytes : Maps.size D0 * 16 ≤ 140737488355328) :
    CallsIn Fence.wide 5 Tryz.prog 68 #[.func (.func 108) #[] #[.pointer (some ⟨w.heap.size, 0, none⟩)]] (w.alloc (.cells #[.map (some b)] 54)) fun e w' => ∃ (v : Value) (ss : List (List UInt8)), e = .returned v ∧ ss.Perm (strKeys D0) ∧
      w'.ownsRow (w.alloc (.cells #[.map (some b)] 54)).heap.size 9 1 v ss.length ((ss.mergeSort (fun x y => decide (x ≤ y))).map encStr) ∧ (v = .slice none 0 0 ↔ ss = []) ∧ Below (w.alloc (.cells #[.map (some b)] 54)).heap.size (w.alloc (.cells #[.map (some b)] 54)) w' := by
  have hbl := hown.lt
  have hseq : SeqGives Fence.wide 2 Tryz.prog 108 #[.pointer (some ⟨w.heap.size, 0, none⟩)] encStr (fun ss => ss.Perm (strKeys D0)) (Maps.size D0) (w.alloc (.cells #[.map (some b)] 54)) :=
    AnyZ.keys_gives (ρ := Tryz.keys69_ren) { Tryz.keys69 with } Fence.wide _ trivial rfl (by omega) w.heap.size b nn D0 _ (by simp) (by simp) (by
      obtain ⟨es, clock, hb, Ft, hs, hD⟩ := hown
      exact ⟨es, clock, (Below.heap_alloc _ _ b hbl).trans hb, Ft, hs, hD⟩)
  exact AnyZ.sorted_in Tryz.sorted68 Fence.wide 5 trivial trivial trivial trivial rfl (by omega) (Tryz.sorts68 _) (enters_of Tryz.func107 (by kernel_rfl) rfl) 108 #[.pointer (some ⟨w.heap.size, 0, none⟩)] trivial (enters_of Tryz.func108 (by kernel_rfl) rfl) _ _ hmax hbytes _ hseq
end Go.Proofs
