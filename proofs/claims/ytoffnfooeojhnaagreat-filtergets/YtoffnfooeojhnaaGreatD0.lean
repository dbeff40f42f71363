/- Contracts of the program and of the document (GMap, GRng, GIter), each used further on. -/
import Derived.Maps.RangeWalk
import Derived.Maps.Ext
import Derived.Maps.OwnSet
import Derived.Sort.KeysCollected
import Derived.Sort.Walk0
import Derived.Deep.LoopGhost
import Derived.Shelf.SlIter.Nil
import Derived.Shelf.SortM.Plain
import Derived.Shelf.SortM.SortNone
import Derived.Test.YtoffnfooeojhnaaGreatProg
import Derived.Shelf.SlGeneric
import Derived.Test.YtoffnfooeojhnaaGreatA4
set_option maxRecDepth 100000
set_option maxHeartbeats 4000000
namespace Go.Proofs.YtoffnfooeojhnaaGreat
open Go.RowKit Go.Maps Go.WideMaps Spans Op
theorem lawS : Keyed Tryz.prog 9 := string_keyed Tryz.underlying9
structure Rw where
 kind : Int
 lo : Int
 hi : Int
 frm : List UInt8
 to_ : List UInt8
 opn : Bool
 A : Option Addr
 n : Nat
 c : Nat
def mkR (r : Rw) : Value := spF r.kind r.lo r.hi r.frm r.to_ r.opn r.A r.n r.c
theorem mkR_inj {r s : Rw} (h : mkR r = mkR s) : r = s := by
 cases r; cases s
 simp only [mkR] at h
 injection h with h
 simp at h
 simp_all
open Classical in
noncomputable def elemR (v : Value) : Option (DataW Rw × List MemPlace) := if h : ∃ r, v = mkR r then some (.held (Classical.choose h), []) else none
theorem elemR_mk (r : Rw) : elemR (mkR r) = some (.held r, []) := by
 have h : ∃ s, mkR r = mkR s := ⟨r, rfl⟩
 unfold elemR
 rw [dif_pos h]
 have := mkR_inj (Classical.choose_spec h)
 rw [<- this]
theorem elemR_inv {v : Value} {y : DataW Rw × List MemPlace} (h : elemR v = some y) : ∃ r, v = mkR r /\ y = (.held r, []) := by
 unfold elemR at h
 by_cases hr : ∃ r, v = mkR r
 ·rw [dif_pos hr] at h
  injection h with h
  exact ⟨_, Classical.choose_spec hr, h.symm⟩
 ·rw [dif_neg hr] at h; cases h
def zeroRw : Rw := ⟨0, 0, 0, [], [], false, none, 0, 0⟩
theorem zeroSp (w : World) : (zeroValue 81).run Tryz.prog w = .ok (mkR zeroRw) w := by kernel_rfl
def rw_ (a : Sp) (A : Option Addr) (c : Nat) : Rw := ⟨a.kind, a.lo, a.hi, a.frm, a.to_, a.opn, A, a.no.length, c⟩
abbrev OwnM (w : World) (b m : Nat) (D : DataW Rw) : Prop := w.ownsMap Tryz.prog 9 elemR b m D
structure Spm (w : World) (D : DataW Rw) (f : List Pr) (S : List UInt8 -> Sp) : Prop where
 map : IsMap D
 has : ∀ n, Maps.has D (.string n) = true ↔ Fil.Asked f n
 all : ∀ n, Fil.Asked f n -> IsAll (Fil.of f n) (S n) /\ (S n).no.length <= f.length /\ ∃ A c, (∀ z, D.atKey (.string n) z = .held (rw_ (S n) A c)) /\ (S n).no.length <= c /\ RdW w A (S n).no
theorem Spm.below {w w' : World} {D : DataW Rw} {f : List Pr} {S : List UInt8 -> Sp} (h : Spm w D f S) (hb : Below w.heap.size w w') : Spm w' D f S :=
 ⟨h.map, h.has, fun n hn => by
  obtain ⟨h1, h2, A, c, h3, h4, h5⟩ := h.all n hn
  exact ⟨h1, h2, A, c, h3, h4, h5.below hb⟩⟩
theorem Spm.spans {w : World} {D : DataW Rw} {f : List Pr} {S : List UInt8 -> Sp} (h : Spm w D f S) : Fil.IsSpans f S := fun n hn => (h.all n hn).1
def SpMap (w : World) (b : Nat) (f : List Pr) (S : List UInt8 -> Sp) : Prop := ∃ m D, OwnM w b m D /\ m <= f.length /\ Spm w D f S
theorem OwnM.below {w w' : World} {b m : Nat} {D : DataW Rw} (h : OwnM w b m D) (hb : Below w.heap.size w w') : OwnM w' b m D := by
 obtain ⟨es, clock, h1, h2⟩ := h
 exact ⟨es, clock, (hb.block b (Array.getElem?_eq_some_iff.1 h1).1).trans h1, h2⟩
theorem SpMap.below {w w' : World} {b : Nat} {f : List Pr} {S : List UInt8 -> Sp} (h : SpMap w b f S) (hb : Below w.heap.size w w') : SpMap w' b f S := by
 obtain ⟨m, D, h1, h2, h3⟩ := h
 exact ⟨m, D, OwnM.below h1 hb, h2, h3.below hb⟩
theorem SpMap.lt {w : World} {b : Nat} {f : List Pr} {S : List UInt8 -> Sp} (h : SpMap w b f S) : b < w.heap.size := by
 obtain ⟨m, D, h1, _⟩ := h
 exact World.ownsMap.lt h1
theorem keyN {n : List UInt8} (h : n.length <= 9223372036854775807) : keyOf Tryz.prog 9 (.string ⟨n.toArray⟩) = some (.string n) :=
 keyOf_string_mk Tryz.underlying9 (by show n.toArray.size <= _; rw [maxLen_num]; simp; omega)
theorem look_yes {w : World} {b m : Nat} {D : DataW Rw} {n : List UInt8} {r : Rw} (h : OwnM w b m D) (hn : n.length <= 9223372036854775807) (hr : ∀ z, D.atKey (.string n) z = .held r) :
  (Instr.lookup 71 (.map (some b)) (.string ⟨n.toArray⟩) true).run Tryz.prog w = .ok (.tuple #[mkR r, .bool true]) w /\ (Instr.lookup 71 (.map (some b)) (.string ⟨n.toArray⟩) false).run Tryz.prog w = .ok (mkR r) w := by
 have hh : Maps.has D (.string n) = true := has_true_of_atKey hr
 obtain ⟨v, ps, hrun, hv⟩ := World.ownsMap.look_ok h lawS Tryz.underlying71 (zeroSp w) (elemR_mk zeroRw) (keyN hn)
 obtain ⟨v', ps', hrun', hv'⟩ := World.ownsMap.lookup h lawS Tryz.underlying71 (zeroSp w) (elemR_mk zeroRw) (keyN hn)
 rw [hr] at hv hv'
 obtain ⟨s, rfl, hs⟩ := elemR_inv hv
 obtain ⟨s', rfl, hs'⟩ := elemR_inv hv'
 simp only [Prod.mk.injEq, DataW.held.injEq] at hs hs'
 obtain ⟨rfl, _⟩ := hs
 obtain ⟨rfl, _⟩ := hs'
 rw [hh] at hrun
 exact ⟨hrun, hrun'⟩
theorem look_no {w : World} {b m : Nat} {D : DataW Rw} {n : List UInt8} (h : OwnM w b m D) (hn : n.length <= 9223372036854775807) (hh : Maps.has D (.string n) = false) :
  (Instr.lookup 71 (.map (some b)) (.string ⟨n.toArray⟩) true).run Tryz.prog w = .ok (.tuple #[spF 0 0 0 [] [] false none 0 0, .bool false]) w := by
 obtain ⟨v, ps, hrun, hv⟩ := World.ownsMap.look_ok h lawS Tryz.underlying71 (zeroSp w) (elemR_mk zeroRw) (keyN hn)
 rw [atKey_of_not_has hh] at hv
 obtain ⟨s, rfl, hs⟩ := elemR_inv hv
 simp only [Prod.mk.injEq, DataW.held.injEq] at hs
 obtain ⟨rfl, _⟩ := hs
 rw [hh] at hrun
 exact hrun
theorem isKey (n : List UInt8) : WideAt.IsKeyLit (.string n) := trivial
theorem Spm.snoc {w : World} {D : DataW Rw} {f : List Pr} {S : List UInt8 -> Sp} {p : Pr} {a : Sp} {A : Option Addr} {c : Nat} (h : Spm w D f S) (ha : IsAll (Fil.of f p.n ++ [p]) a) (hl : a.no.length <= f.length + 1) (hc : a.no.length <= c) (hr : RdW w A a.no) :
  Spm w (D.put (.string p.n) (.held (rw_ a A c))) (f ++ [p]) (fun n => if n = p.n then a else S n) where
 map := h.map.put _ _
 has := fun n => by
  by_cases hn : n = p.n
  ·subst hn
   rw [has_put_same h.map (isKey _)]
   exact ⟨fun _ => Fil.asked_app.2 (.inr ⟨p, by simp, rfl⟩), fun _ => rfl⟩
  ·rw [has_put_other (by simpa using hn), h.has n, Fil.asked_app]
   exact ⟨.inl, fun k => k.resolve_right fun ⟨q, hq, e⟩ => by simp at hq; subst hq; exact hn e.symm⟩
 all := fun n hn => by
  by_cases e : n = p.n
  ·subst e
   rw [if_pos rfl]
   refine ⟨?_, by simp; omega, A, c, fun z => atKey_put_same h.map (isKey _) _ _, hc, hr⟩
   rw [Fil.of_app]
   have : Fil.of [p] p.n = [p] := by simp [Fil.of]
   rw [this]
   exact ha
  ·rw [if_neg e]
   have hn' : Fil.Asked f n := (Fil.asked_app.1 hn).resolve_right fun ⟨q, hq, k⟩ => by simp at hq; subst hq; exact e k.symm
   obtain ⟨h1, h2, A', c', h3, h4, h5⟩ := h.all n hn'
   refine ⟨?_, by simp; omega, A', c', fun z => by rw [atKey_put_other (by simpa using e)]; exact h3 z, h4, h5⟩
   rw [Fil.of_app]
   have : Fil.of [p] n = [] := by simp [Fil.of]; exact fun k => e k.symm
   rw [this, List.append_nil]
   exact h1
theorem of_none {f : List Pr} {n : List UInt8} (h : ¬ Fil.Asked f n) : Fil.of f n = [] := List.filter_eq_nil_iff.2 fun p hp => by simp; exact fun e => h ⟨p, hp, e⟩
theorem names_of {w : World} {b m : Nat} {D : DataW Rw} {f : List Pr} {S : List UInt8 -> Sp} (ho : OwnM w b m D) (h : Spm w D f S) {ss : List (List UInt8)} (hp : ss.Perm (strKeys D)) : Fil.IsNames f (ss.mergeSort (fun x y => decide (x <= y))) := by
 obtain ⟨es, rfl, hpw, hk⟩ := World.ownsMap.canon ho lawS
 have hstr : ∀ p ∈ es, ∃ x, p.1 = .string x := by
  obtain ⟨es', clock, _, F, _, hD⟩ := ho
  intro p hp
  injection hD with hD
  subst hD
  obtain ⟨x, hx, rfl⟩ := List.mem_map.1 (mem_sorted.1 hp)
  obtain ⟨y, hy⟩ := F.reads x hx
  rw [WideElems.rg_of hy]
  obtain ⟨z, _, hz, _⟩ := Maps.keyOf_str Tryz.underlying9 (WideElems.rd_key hy)
  exact ⟨z, hz⟩
 have hmem : ∀ x, x ∈ ss ↔ Fil.Asked f x := fun x => by
  rw [hp.mem_iff, <- h.has x, Maps.has_eq, List.any_eq_true]
  unfold strKeys
  rw [List.mem_map]
  constructor
  ·rintro ⟨p, hpm, e⟩
   obtain ⟨y, hy⟩ := hstr p hpm
   rw [hy] at e
   refine ⟨p, hpm, ?_⟩
   rw [hy, <- e]
   exact WideAt.sameKey_self (isKey _)
  ·rintro ⟨p, hpm, e⟩
   have := WideAt.sameKey_eq e
   exact ⟨p, hpm, by rw [this]; rfl⟩
 have hnd : ss.Nodup := by
  rw [hp.nodup_iff]
  unfold strKeys
  rw [List.nodup_iff_pairwise_ne, List.pairwise_map]
  refine hpw.imp_of_mem fun {a c} ha hc hac e => ?_
  obtain ⟨x, hx⟩ := hstr a ha
  obtain ⟨y, hy⟩ := hstr c hc
  rw [hx, hy] at e
  have : a.1 = c.1 := by rw [hx, hy]; exact congrArg _ e
  rw [this, WideShapes.before_irrefl] at hac
  cases hac
 refine ⟨?_, fun n => by rw [(List.mergeSort_perm ss _).mem_iff, hmem n]⟩
 have h1 := List.pairwise_mergeSort (le := fun x y : List UInt8 => decide (x <= y)) (fun a b c => by simp; exact List.le_trans) (fun a b => by simp; exact List.le_total a b) ss
 have h2 : (ss.mergeSort (fun x y => decide (x <= y))).Nodup := (List.mergeSort_perm ss _).nodup_iff.2 hnd
 refine (h1.and (List.nodup_iff_pairwise_ne.1 h2)).imp fun {a c} ⟨h3, h4⟩ => ?_
 have h5 : bytesLess c a = false := by
  rw [bytesLess_eq]
  have h3' := of_decide_eq_true h3
  exact decide_eq_false h3'
 cases h6 : bytesLess a c with
 | true => rfl
 | false => exact absurd (Vals.less_tri _ _ h6 h5) h4
end Go.Proofs.YtoffnfooeojhnaaGreat
namespace Go.Proofs.YtoffnfooeojhnaaGreat
open Go.RowKit Go.Maps Spans Op
def PBd (f : List Pr) : Prop := ∀ p ∈ f, p.n.length <= 100 /\ p.t.length <= 100 /\ -9223372036854775808 <= p.i /\ p.i <= 9223372036854775807
theorem PBd.right {f : List Pr} (h : PBd f) {p : Pr} (hp : p ∈ f) : rightP p = Preds.right p.n p.o p.k p.i p.t := by
 obtain ⟨_, _, h1, h2⟩ := h p hp
 unfold rightP
 simp [h1, h2]
theorem allRight_at (A : Option Addr) (f : List Pr) (n c : Nat) (hn : f.length = n) (hm : n <= 100000) (hl : PBd f) (w : World) (hr : RdQ w A f) (b : Bool) (hb : decide (Fil.AllRight f) = b) :
  Calls Tryz.prog 40 #[.slice A n c] w fun e w' => e = .returned (.bool b) /\ Below w.heap.size w w' := by
 subst hb
 have HN := Lib.hid hn
 have HLL := Lib.hid hl
 have HR := Lib.hid hr
 clear hn hl hr
 go_enter Tryz.func40, Tryz.ntmps40
 go_wp2_with fail
 go_loopg [7] n (fun gg s7 wr => ∃ k : Nat, k <= n /\ n - k <= gg /\ s7 = .int .i64 (k : Int) /\ Hid (Below w.heap.size w wr) /\ Hid (∀ p ∈ f.take k, rightP p = true))
 case atStart => exact ⟨0, Nat.zero_le _, by omega, rfl, Below.refl _ _, fun p hp => by simp at hp⟩
 case round =>
  obtain ⟨k, hk, hgg, rfl, HB, HA⟩ := hrel
  by_cases hlt : k < n
  ·have hk' : k < f.length := by rw [HN.out]; exact hlt
   have hpl := HLL.out _ (List.getElem_mem hk')
   have hpr := HLL.out.right (List.getElem_mem hk')
   obtain ⟨g, off, rfl, hg, c0, c1, c2, c3, c4⟩ := RdQ.at5 (RdK.below HR.out HB.out) hk'
   obtain ⟨x, hx⟩ : ∃ x, f[k] = x := ⟨_, rfl⟩
   have HX := Lib.hid hx
   rw [hx] at c0 c1 c2 c3 c4 hpl hpr
   clear hx HLL HR
   obtain ⟨xn, xo, xk, xi, xt⟩ := x
   obtain ⟨hp1, hp2, hp3, hp4⟩ := hpl
   dsimp only at hp1 hp2 hp3 hp4 hpr c0 c1 c2 c3 c4
   have HPR := Lib.hid hpr
   clear hpr
   have w5 : (k : Int) < (n : Int) := by omega
   have HB1 := Lib.hid (HB.out.alloc (by have := HB.out.size; omega) (.cells (pC xn.toArray xo xk xi xt.toArray) 35))
   cases hq : Preds.right xn xo xk xi xt with
   | true =>
    have HQ := Lib.hid hq
    clear hq
    go_wp2_with fail
    refine (pright_is xn xo xk xi xt _ (by omega) (by omega) true HQ.out).mono ?_
    rintro e w2 ⟨rfl, hb2⟩
    have HB2 := Lib.hid (below_next HB1.out (by have := HB1.out.size; omega) hb2)
    have HA2 : Hid (∀ p ∈ f.take (k + 1), rightP p = true) := by
     show ∀ p ∈ _, _
     rw [List.take_succ_eq_append_getElem hk', HX.out]
     intro p hp
     rcases List.mem_append.1 hp with hp | hp
     ·exact HA.out p hp
     ·simp at hp; subst hp; rw [HPR.out]; exact HQ.out
    clear hb2 c0 c1 c2 c3 c4
    go_wp2_with fail
    go_roundg (n - (k + 1))
    case measure => omega
    case rel => exact ⟨k + 1, by omega, Nat.le_refl _, by go_num, HB2, HA2⟩
   | false =>
    have HQ := Lib.hid hq
    clear hq
    go_wp2_with fail
    refine (pright_is xn xo xk xi xt _ (by omega) (by omega) false HQ.out).mono ?_
    rintro e w2 ⟨rfl, hb2⟩
    have HB2 := Lib.hid (below_next HB1.out (by have := HB1.out.size; omega) hb2)
    have HF : Hid (¬ Fil.AllRight f) := fun h => by
     have := h _ (List.getElem_mem hk')
     rw [HX.out, HPR.out, HQ.out] at this
     cases this
    clear hb2 c0 c1 c2 c3 c4
    go_wp2_with fail
    go_ret
    exact ⟨ret_b (decide_eq_false HF.out).symm, HB2.out⟩
  ·have hkn : Hid (k = n) := by show k = n; omega
   go_wp2_with fail
   go_ret
   refine ⟨ret_b (decide_eq_true ?_).symm, HB.out⟩
   have := HA.out
   rwa [hkn.out, List.take_of_length_le (by rw [HN.out]; exact Nat.le_refl _)] at this
theorem sound_at (A : Option Addr) (f : List Pr) (n c : Nat) (hn : f.length = n) (hm : n <= 100000) (hl : PBd f) (w : World) (hr : RdQ w A f) (b : Bool) (hb : decide (Fil.Sound f) = b) :
  Calls Tryz.prog 52 #[.slice A n c] w fun e w' => e = .returned (.bool b) /\ Below w.heap.size w w' := by
 subst hb
 have HN := Lib.hid hn
 by_cases h24 : n <= 24
 ·have hc := fun W hW => allRight_at A f n c hn hm hl W hW _ rfl
  have HS : Hid (decide (Fil.Sound f) = decide (Fil.AllRight f)) := decide_eq_decide.2 ⟨fun h => h.2, fun h => ⟨by rw [HN.out]; exact h24, h⟩⟩
  clear hn hl
  go_enter Tryz.func52, Tryz.ntmps52
  go_wp2_with fail
  refine (hc _ hr).mono ?_
  rintro e w2 ⟨rfl, hb2⟩
  clear hc
  go_wp2_with fail
  go_ret
  exact ⟨ret_b (by rw [HS.out]), hb2⟩
 ·have HS : Hid (decide (Fil.Sound f) = false) := decide_eq_false fun h => h24 (by have := h.1; rw [HN.out] at this; exact this)
  clear hn hl hr
  go_enter Tryz.func52, Tryz.ntmps52
  go_wp2_with fail
  go_ret
  exact ⟨ret_b (by rw [HS.out]), Below.refl _ _⟩
theorem wpList_next_S {w : World} {ops : Array Oper} {rest : List Oper} {oo : Oper} {a : Act} {Q : Exit -> Act -> World -> Prop} (hg : oo.guard = none) (it : Operand) (hop : oo.op = Op.next it false) (b r n : Nat) (D : DataW Rw) (left : Lit -> Bool) (cnt : Nat)
  (hit : a.eval it = .pointer (some ⟨r, 0, none⟩)) (h : w.ranges Tryz.prog 9 elemR b r n D left cnt)
  (hDone : cnt = 0 -> (∀ kl, left kl = false) -> wpList Tryz.prog ops Q rest (a.put oo.dst (.tuple #[.bool false])) w)
  (hMore : ∀ (x : List UInt8) (s : Rw) (w' : World) (cnt' : Nat), left (.string x) = true -> (∀ zd, D.atKey (.string x) zd = .held s) -> w'.ranges Tryz.prog 9 elemR b r n D (fun z => left z && !z.sameKey (.string x)) cnt' -> cnt' < cnt ->
   w.grownBy w' (some r) -> w'.heap.size = w.heap.size -> (Instr.entry (.pointer (some ⟨r, 0, none⟩))).run Tryz.prog w' = .ok (.tuple #[.string ⟨x.toArray⟩, .agg (sC s.kind s.lo s.hi s.frm.toArray s.to_.toArray s.opn s.A s.n s.c)]) w' -> wpList Tryz.prog ops Q rest (a.put oo.dst (.tuple #[.bool true, .string ⟨x.toArray⟩, .agg (sC s.kind s.lo s.hi s.frm.toArray s.to_.toArray s.opn s.A s.n s.c)])) w') :
  wpList Tryz.prog ops Q (oo :: rest) a w :=
 wpList_next_ranges w hg it hop 9 lawS elemR (fun l : List UInt8 => Value.string ⟨l.toArray⟩) mkR (fun key kl hk => by obtain ⟨x, hx, _⟩ := Maps.keyOf_str Tryz.underlying9 hk; exact ⟨x, hx⟩) (fun v y hv => by obtain ⟨s, rfl, _⟩ := elemR_inv hv; exact ⟨s, rfl⟩) b r n D left cnt hit h hDone
  (fun x s kl y w' cnt' hkey hlk hv hat hrg hlt hgr hsz hen => by
   obtain ⟨x', ex, rfl, _⟩ := Maps.keyOf_str Tryz.underlying9 hkey
   obtain rfl : x = x' := by simpa using ex
   obtain ⟨s', e1, rfl⟩ := elemR_inv hv
   obtain rfl := mkR_inj e1
   exact hMore x s w' cnt' hlk hat hrg hlt hgr hsz hen)
instance (f : List Pr) (S : List UInt8 -> Sp) : Decidable (Fil.Void f S) := inferInstanceAs (Decidable (∃ p ∈ f, _ = _))
theorem Spm.kind {w : World} {D : DataW Rw} {f : List Pr} {S : List UInt8 -> Sp} (h : Spm w D f S) {x : List UInt8} {r : Rw} (hat : ∀ z, D.atKey (.string x) z = .held r) : Fil.Asked f x /\ ∃ A c, r = rw_ (S x) A c /\ (S x).no.length <= c /\ RdW w A (S x).no := by
 have ha := (h.has x).1 (has_true_of_atKey hat)
 obtain ⟨_, _, A, c, h3, h4, h5⟩ := h.all x ha
 have e := (hat .nil).symm.trans (h3 .nil)
 injection e with e
 exact ⟨ha, A, c, e, h4, h5⟩
theorem left_next {left : Lit -> Bool} {x n : List UInt8} (h : (left (.string n) && !(Lit.string n).sameKey (.string x)) = false) : n = x ∨ left (.string n) = false := by
 by_cases e : n = x
 ·exact .inl e
 ·rw [sameKey_ne (by simpa using e)] at h
  simp at h
  exact .inr h
theorem anyEmpty_at (b : Nat) (f : List Pr) (S : List UInt8 -> Sp) (w : World) (h : SpMap w b f S) (q : Bool) (hq : decide (Fil.Void f S) = q) :
  Calls Tryz.prog 42 #[.map (some b)] w fun e w' => e = .returned (.bool q) /\ Below w.heap.size w w' := by
 subst hq
 obtain ⟨m, D, hown, _, hS⟩ := h
 have HS := Lib.hid hS
 clear hS
 have hbl := World.ownsMap.lt hown
 go_enter Tryz.func42, Tryz.ntmps42
 go_wp2_with (first | (at_range; refine wpList_range_own _ rfl _ 71 rfl 9 81 lawS Tryz.underlying71 _ b m _ rfl hown ?_; intro w0 hrg0 hg0 hs0) | go_in)
 go_frame
 go_loopw [4] (fun _ wr => ∃ (left : Lit -> Bool) (cnt : Nat), wr.ranges Tryz.prog 9 elemR b w.heap.size m D left cnt /\ Hid (∀ n, Fil.Asked f n -> left (.string n) = false -> (S n).kind ≠ 0) /\ Hid (Below w.heap.size w wr)) (fun _ wr => wr.rangeLeft b w.heap.size)
 case atStart => exact ⟨_, _, hrg0, fun n hn hl => (by rw [(HS.out.has n).2 hn] at hl; cases hl), (Below.refl _ _).grown hg0 (Nat.le_refl _) (fun j hj => by cases hj)⟩
 case round =>
  obtain ⟨left, cnt, hrg, HL, HB⟩ := hrel
  clear hrg0 hg0 hs0
  go_wp2_with (first | (at_next; refine wpList_next_S rfl _ rfl b w.heap.size m D left cnt rfl hrg ?_ ?_) | go_in)
  ·intro _ hl0
   have HF : Hid (¬ Fil.Void f S) := fun ⟨p, hp, e⟩ => HL.out p.n ⟨p, hp, rfl⟩ (hl0 _) e
   clear hl0 hrg
   go_wp2_with fail
   go_ret
   exact ⟨ret_b (decide_eq_false HF.out).symm, HB.out⟩
  ·intro x s w1 cnt1 hlx hat hrg1 hlt hg1 hs1 hen
   obtain ⟨hax, A', c', hr, _⟩ := HS.out.kind hat
   have hKS : Hid (s.kind = (S x).kind) := congrArg Rw.kind hr
   have HB1 : Hid (Below w.heap.size w w1) := HB.out.grown hg1 HB.out.size (fun j hj => by cases hj; exact Nat.le_refl _)
   have HB2 := Lib.hid (HB1.out.alloc HB1.out.size (.cells (sC s.kind s.lo s.hi s.frm.toArray s.to_.toArray s.opn s.A s.n s.c) 81))
   have hrg2 := hrg1.alloc (.cells (sC s.kind s.lo s.hi s.frm.toArray s.to_.toArray s.opn s.A s.n s.c) 81)
   clear hs1 hat hg1 hrg1 hr
   by_cases hK : s.kind = 0
   ·have v1 : (s.kind == 0) = true := beq_iff_eq.2 hK
    have HF : Hid (Fil.Void f S) := by
     obtain ⟨p, hp, e⟩ := hax
     subst e
     exact ⟨p, hp, hKS.out.symm.trans hK⟩
    clear hK
    go_wp2_with fail
    go_ret
    exact ⟨ret_b (decide_eq_true HF.out).symm, HB2.out⟩
   ·have v1 : (s.kind == 0) = false := beq_eq_false_iff_ne.2 hK
    have HL2 : Hid (∀ n, Fil.Asked f n -> (left (.string n) && !(Lit.string n).sameKey (.string x)) = false -> (S n).kind ≠ 0) := fun n hn h => by
     rcases left_next h with e | e
     ·subst e; rw [<- hKS.out]; exact hK
     ·exact HL.out n hn e
    go_wp2_with fail
    go_roundw
    case rel => exact ⟨_, cnt1, hrg2, HL2, HB2⟩
    case measure => rw [hrg2.left_eq, hrg.left_eq]; exact hlt
end Go.Proofs.YtoffnfooeojhnaaGreat
namespace Go.Proofs
open Go.Shelf
def Tryz.keys79_ren : Go.Shelf.Ren := ⟨fun | 7 => 79 | 10 => 120 | n => n, fun | 23 => 71 | 26 => 9 | 3 => 81 | 28 => 112 | 0 => 0 | 27 => 111 | 33 => 142 | 4 => 4 | n => n, fun | n => n⟩
theorem Tryz.keys79 : Go.Proofs.SlLaysZ.n7 Tryz.prog Tryz.keys79_ren := {
 mixed := by kernel_rfl
 f7 := ⟨Tryz.f79.name, by decide, Tryz.func79.trans (congrArg some (by kernel_rfl))⟩
 f10 := ⟨Tryz.f120.name, by decide, Tryz.func120.trans (congrArg some (by kernel_rfl))⟩
 t0 := Tryz.underlying0
 a0 := Tryz.isAgg0
 z0 := Tryz.sizeOf0
 v0 := Tryz.zeroValue0
 t4 := Tryz.underlying4
 a4 := Tryz.isAgg4
 z4 := Tryz.sizeOf4
 v4 := Tryz.zeroValue4
 t23 := Tryz.underlying71
 a23 := Tryz.isAgg71
 z23 := Tryz.sizeOf71
 v23 := Tryz.zeroValue71
 t26 := Tryz.underlying9
 a26 := Tryz.isAgg9
 z26 := Tryz.sizeOf9
 v26 := Tryz.zeroValue9
 t27 := Tryz.underlying111
 a27 := Tryz.isAgg111
 z27 := Tryz.sizeOf111
 v27 := Tryz.zeroValue111
 t28 := Tryz.underlying112
 a28 := Tryz.isAgg112
 z28 := Tryz.sizeOf112
 v28 := Tryz.zeroValue112
 t33 := Tryz.underlying142
 a33 := Tryz.isAgg142
 z33 := Tryz.sizeOf142
 v33 := Tryz.zeroValue142 }
def Tryz.sorted78_ren : Go.Shelf.Ren := ⟨fun | 6 => 78 | 8 => 118 | 9 => 119 | 11 => 151 | 13 => 153 | 12 => 152 | 23 => 178 | 24 => 161 | 14 => 169 | 15 => 170 | 16 => 171 | 17 => 172 | 18 => 173 | 19 => 174 | 20 => 175 | 21 => 176 | 22 => 177 | 25 => 193 | 26 => 194 | 27 => 195 | 28 => 196 | 29 => 197 | 30 => 181 | 31 => 202 | n => n, fun | 26 => 9 | 28 => 112 | 24 => 76 | 0 => 0 | 3 => 3 | 37 => 162 | 48 => 177 | 50 => 90 | 4 => 4 | 40 => 170 | 39 => 169 | 45 => 174 | 5 => 5 | 9 => 9 | 51 => 187 | 55 => 190 | 57 => 195 | 58 => 196 | 33 => 142 | n => n, fun | n => n⟩
theorem Tryz.sorted78 : Go.Proofs.SlLaysZ.n6 Tryz.prog Tryz.sorted78_ren := {
 mixed := by kernel_rfl
 f6 := ⟨Tryz.f78.name, by decide, Tryz.func78.trans (congrArg some (by kernel_rfl))⟩
 f8 := ⟨Tryz.f118.name, by decide, Tryz.func118.trans (congrArg some (by kernel_rfl))⟩
 f11 := ⟨Tryz.f151.name, by decide, Tryz.func151.trans (congrArg some (by kernel_rfl))⟩
 t0 := Tryz.underlying0
 a0 := Tryz.isAgg0
 z0 := Tryz.sizeOf0
 v0 := Tryz.zeroValue0
 t24 := Tryz.underlying76
 a24 := Tryz.isAgg76
 z24 := Tryz.sizeOf76
 v24 := Tryz.zeroValue76
 t26 := Tryz.underlying9
 a26 := Tryz.isAgg9
 z26 := Tryz.sizeOf9
 v26 := Tryz.zeroValue9
 t28 := Tryz.underlying112
 a28 := Tryz.isAgg112
 z28 := Tryz.sizeOf112
 v28 := Tryz.zeroValue112
 i26 := by kernel_rfl }
def Tryz.sort119_ren : Go.Shelf.Ren := ⟨fun | 6 => 119 | 8 => 153 | 9 => 152 | 19 => 178 | 20 => 161 | 21 => 169 | 22 => 170 | 23 => 171 | 24 => 172 | 25 => 173 | 26 => 174 | 27 => 175 | 28 => 176 | 29 => 177 | 36 => 193 | 31 => 194 | 32 => 195 | 37 => 196 | 38 => 197 | 39 => 181 | 41 => 202 | n => n, fun | 27 => 76 | 29 => 9 | 3 => 3 | 32 => 162 | 26 => 76 | 0 => 0 | 44 => 177 | 46 => 90 | 4 => 4 | 36 => 170 | 35 => 169 | 41 => 174 | 5 => 5 | 9 => 9 | 53 => 187 | 57 => 190 | 63 => 195 | 64 => 196 | n => n, fun | n => n⟩
theorem Tryz.sort119 : Go.Proofs.SlLaysM.n6 Tryz.prog Tryz.sort119_ren := {
 mixed := by kernel_rfl
 f6 := ⟨Tryz.f119.name, by decide, Tryz.func119.trans (congrArg some (by kernel_rfl))⟩
 f8 := Tryz.func153.trans (congrArg some (by kernel_rfl))
 f9 := ⟨Tryz.f152.name, by decide, Tryz.func152.trans (congrArg some (by kernel_rfl))⟩
 f19 := Tryz.func178.trans (congrArg some (by kernel_rfl))
 f20 := Tryz.func161.trans (congrArg some (by kernel_rfl))
 f21 := ⟨Tryz.f169.name, by decide, Tryz.func169.trans (congrArg some (by kernel_rfl))⟩
 f22 := ⟨Tryz.f170.name, by decide, Tryz.func170.trans (congrArg some (by kernel_rfl))⟩
 f23 := ⟨Tryz.f171.name, by decide, Tryz.func171.trans (congrArg some (by kernel_rfl))⟩
 f24 := ⟨Tryz.f172.name, by decide, Tryz.func172.trans (congrArg some (by kernel_rfl))⟩
 f25 := ⟨Tryz.f173.name, by decide, Tryz.func173.trans (congrArg some (by kernel_rfl))⟩
 f26 := ⟨Tryz.f174.name, by decide, Tryz.func174.trans (congrArg some (by kernel_rfl))⟩
 f27 := ⟨Tryz.f175.name, by decide, Tryz.func175.trans (congrArg some (by kernel_rfl))⟩
 f28 := ⟨Tryz.f176.name, by decide, Tryz.func176.trans (congrArg some (by kernel_rfl))⟩
 f29 := ⟨Tryz.f177.name, by decide, Tryz.func177.trans (congrArg some (by kernel_rfl))⟩
 f31 := Tryz.func194.trans (congrArg some (by kernel_rfl))
 f32 := Tryz.func195.trans (congrArg some (by kernel_rfl))
 f36 := ⟨Tryz.f193.name, by decide, Tryz.func193.trans (congrArg some (by kernel_rfl))⟩
 f37 := ⟨Tryz.f196.name, by decide, Tryz.func196.trans (congrArg some (by kernel_rfl))⟩
 f38 := ⟨Tryz.f197.name, by decide, Tryz.func197.trans (congrArg some (by kernel_rfl))⟩
 f39 := ⟨Tryz.f181.name, by decide, Tryz.func181.trans (congrArg some (by kernel_rfl))⟩
 f41 := ⟨Tryz.f202.name, by decide, Tryz.func202.trans (congrArg some (by kernel_rfl))⟩
 t0 := Tryz.underlying0
 a0 := Tryz.isAgg0
 z0 := Tryz.sizeOf0
 v0 := Tryz.zeroValue0
 t3 := Tryz.underlying3
 a3 := Tryz.isAgg3
 z3 := Tryz.sizeOf3
 v3 := Tryz.zeroValue3
 t4 := Tryz.underlying4
 a4 := Tryz.isAgg4
 z4 := Tryz.sizeOf4
 v4 := Tryz.zeroValue4
 t5 := Tryz.underlying5
 a5 := Tryz.isAgg5
 z5 := Tryz.sizeOf5
 v5 := Tryz.zeroValue5
 t9 := Tryz.underlying9
 a9 := Tryz.isAgg9
 z9 := Tryz.sizeOf9
 v9 := Tryz.zeroValue9
 t26 := Tryz.underlying76
 a26 := Tryz.isAgg76
 z26 := Tryz.sizeOf76
 v26 := Tryz.zeroValue76
 t27 := Tryz.underlying76
 a27 := Tryz.isAgg76
 z27 := Tryz.sizeOf76
 v27 := Tryz.zeroValue76
 t29 := Tryz.underlying9
 a29 := Tryz.isAgg9
 z29 := Tryz.sizeOf9
 v29 := Tryz.zeroValue9
 t32 := Tryz.underlying162
 a32 := Tryz.isAgg162
 z32 := Tryz.sizeOf162
 v32 := Tryz.zeroValue162
 t35 := Tryz.underlying169
 a35 := Tryz.isAgg169
 z35 := Tryz.sizeOf169
 v35 := Tryz.zeroValue169
 t36 := Tryz.underlying170
 a36 := Tryz.isAgg170
 z36 := Tryz.sizeOf170
 v36 := Tryz.zeroValue170
 t41 := Tryz.underlying174
 a41 := Tryz.isAgg174
 z41 := Tryz.sizeOf174
 v41 := Tryz.zeroValue174
 t44 := Tryz.underlying177
 a44 := Tryz.isAgg177
 z44 := Tryz.sizeOf177
 v44 := Tryz.zeroValue177
 t46 := Tryz.underlying90
 a46 := Tryz.isAgg90
 z46 := Tryz.sizeOf90
 v46 := Tryz.zeroValue90
 t53 := Tryz.underlying187
 a53 := Tryz.isAgg187
 z53 := Tryz.sizeOf187
 v53 := Tryz.zeroValue187
 t57 := Tryz.underlying190
 a57 := Tryz.isAgg190
 z57 := Tryz.sizeOf190
 v57 := Tryz.zeroValue190
 t63 := Tryz.underlying195
 a63 := Tryz.isAgg195
 z63 := Tryz.sizeOf195
 v63 := Tryz.zeroValue195
 t64 := Tryz.underlying196
 a64 := Tryz.isAgg196
 z64 := Tryz.sizeOf196
 v64 := Tryz.zeroValue196 }
end Go.Proofs
namespace Go.Proofs
open Go.RowKit Go.Maps Go.Sort Go.Shelf
theorem Tryz.sorts78 (m : Nat) : AnyZ.SortsIn Tryz.prog Tryz.sorted78_ren Fence.wide m :=
 ⟨fun blk off cap ss W hH hblk hsz => callsIn_wide.2 (AnyM.slices_Sort_string Tryz.sort119 blk off cap ss W hH hblk hsz),
  fun p cap W => callsIn_wide.2 (AnyM.slices_Sort_string_none Tryz.sort119 p cap W)⟩
theorem Tryz.maps_Keys_79 (mb : Option Nat) (W : World) : CallsIn Fence.wide 5 Tryz.prog 79 #[.map mb] W fun e w' => e = .returned (.func (.func 120) #[] #[.pointer (some ⟨W.heap.size, 0, none⟩)]) /\ w' = W.alloc (.cells #[.map mb] 71) :=
 AnyZ.keys_in Tryz.keys79 Fence.wide 5 trivial rfl mb W
theorem Tryz.slices_Sorted_keys_78_79 {H : Type} (b nn : Nat) (D0 : DataW H) (R : Value -> Option (DataW H × List MemPlace)) (w : World) (hown : w.ownsMap Tryz.prog 9 R b nn D0) (hmax : Maps.size D0 <= maxLen) (hbytes : Maps.size D0 * 16 <= 140737488355328) :
  CallsIn Fence.wide 5 Tryz.prog 78 #[.func (.func 120) #[] #[.pointer (some ⟨w.heap.size, 0, none⟩)]] (w.alloc (.cells #[.map (some b)] 71)) fun e w' => ∃ (v : Value) (ss : List (List UInt8)), e = .returned v /\ ss.Perm (strKeys D0) /\
   w'.ownsRow (w.alloc (.cells #[.map (some b)] 71)).heap.size 9 1 v ss.length ((ss.mergeSort (fun x y => decide (x <= y))).map encStr) /\ (v = .slice none 0 0 ↔ ss = []) /\ Below (w.alloc (.cells #[.map (some b)] 71)).heap.size (w.alloc (.cells #[.map (some b)] 71)) w' := by
 have hbl := hown.lt
 have hseq : SeqGives Fence.wide 2 Tryz.prog 120 #[.pointer (some ⟨w.heap.size, 0, none⟩)] encStr (fun ss => ss.Perm (strKeys D0)) (Maps.size D0) (w.alloc (.cells #[.map (some b)] 71)) :=
  AnyZ.keys_gives (ρ := Tryz.keys79_ren) { Tryz.keys79 with } Fence.wide _ trivial rfl (by omega) w.heap.size b nn D0 _ (by simp) (by simp) (by
   obtain ⟨es, clock, hb, Ft, hs, hD⟩ := hown
   exact ⟨es, clock, (Below.heap_alloc _ _ b hbl).trans hb, Ft, hs, hD⟩)
 exact AnyZ.sorted_in Tryz.sorted78 Fence.wide 5 trivial trivial trivial trivial rfl (by omega) (Tryz.sorts78 _) (enters_of Tryz.func119 (by kernel_rfl) rfl) 120 #[.pointer (some ⟨w.heap.size, 0, none⟩)] trivial (enters_of Tryz.func120 (by kernel_rfl) rfl) _ _ hmax hbytes _ hseq
end Go.Proofs
