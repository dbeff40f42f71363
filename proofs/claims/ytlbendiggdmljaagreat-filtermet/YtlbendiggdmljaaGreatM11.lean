/- Contracts of the program and of the document (GMeetM, GMeet), each used further on. -/
import Derived.Test.YtlbendiggdmljaaGreatM10
namespace Go.Proofs.YtlbendiggdmljaaGreat
namespace Fil
open Spans Ev Op
def firstV (a : Sp) : Val := if a.kind = 4 then ⟨1, 0, []⟩ else ⟨a.kind, a.lo, a.frm⟩
def atOf (S : List UInt8 → Sp) (n : List UInt8) : At := ⟨n, (firstV (S n)).k, (firstV (S n)).i, (firstV (S n)).t⟩
def evOf (L : List (List UInt8)) (S : List UInt8 → Sp) : List At := L.map (atOf S)
theorem first_has {a : Sp} (h : Canon a) (h0 : a.kind ≠ 0) : has a (firstV a) = true := by
  rcases h with rfl | rfl | h | h
  · exact absurd rfl h0
  · decide
  · unfold firstV
    rw [if_neg (N_not4 h).1, h.frm]
    exact has_lo h
  · unfold firstV
    rw [if_neg (T_not4 h).1, h.kind, h.lo]
    exact has_frm h
theorem evOf_find {L : List (List UInt8)} {S : List UInt8 → Sp} {n : List UInt8} (hn : n ∈ L) : find (evOf L S) n = some (atOf S n) := by
  unfold find evOf
  induction L with
  | nil => cases hn
  | cons x L ih =>
    rw [List.map_cons, List.find?_cons]
    by_cases e : x = n
    · subst e
      simp [atOf]
    · have : ((atOf S x).n == n) = false := by simpa [atOf] using e
      rw [this]
      exact ih ((List.mem_cons.1 hn).resolve_left fun k => e k.symm)
theorem Good.evR {f out : List Pr} {S : List UInt8 → Sp} {L : List (List UInt8)} (h : Good f out S L) : EvR (evOf L S) := by
  have hv : ∀ n ∈ L, rightV (firstV (S n)) = true := fun n hn => has_right (first_has (h.spans n ((h.names.2 n).1 hn)).1 (h.pos ((h.names.2 n).1 hn)))
  refine ⟨⟨?_, fun a ha => ?_, ?_⟩, fun a ha => ?_⟩
  · unfold evOf
    rw [List.length_map]
    exact names_few h
  · obtain ⟨n, hn, rfl⟩ := List.mem_map.1 ha
    have h1 := name_len h.sound.2 ((h.names.2 n).1 hn)
    have h2 := ((rightV_iff _).1 (hv n hn)).1
    unfold Ev.ok atOf
    simp [h1, h2]
  · unfold evOf
    rw [List.pairwise_map]
    exact h.names.1
  · obtain ⟨n, hn, rfl⟩ := List.mem_map.1 ha
    exact ((rightV_iff _).1 (hv n hn)).2
theorem Good.meeting {f out : List Pr} {S : List UInt8 → Sp} {L : List (List UInt8)} (h : Good f out S L) : Fil.meets f (evOf L S) = true :=
  (meets_iff h.spans h.evR).2 fun n hn => ⟨_, evOf_find ((h.names.2 n).2 hn), first_has (h.spans n hn).1 (h.pos hn)⟩
/-- How far the names have come. -/
def Upto (g : List Pr) (L : List (List UInt8)) (i j : Nat) : Prop := j ≤ L.length ∧ (∀ p ∈ g.take i, p.n ∈ L.take j) ∧ ∀ n ∈ L.take j, Asked (g.take i) n
theorem upto_start (g : List Pr) (L : List (List UInt8)) : Upto g L 0 0 := ⟨Nat.zero_le _, fun p hp => by simp at hp, fun n hn => by simp at hn⟩
theorem Good.rise {f out : List Pr} {S : List UInt8 → Sp} {L : List (List UInt8)} (h : Good f out S L) : out.Pairwise fun p q => bytesLess q.n p.n = false := by
  have hf : ∀ n ∈ L, ∀ p ∈ predsOf n (S n), p.n = n := fun n hn p hp => (h.fine ((h.names.2 n).1 hn) p hp).2
  rw [h.is]
  unfold outOf
  rw [List.pairwise_flatMap]
  refine ⟨fun n hn => ?_, ?_⟩
  · refine List.Pairwise.imp_of_mem (R := fun _ _ => True) (fun {p q} hp hq _ => ?_) (List.pairwise_of_forall fun _ _ => trivial)
    rw [hf n hn p hp, hf n hn q hq, Vals.less_irr]
  · refine h.names.1.imp_of_mem fun {a b} ha hb hab p hp q hq => ?_
    rw [hf a ha p hp, hf b hb q hq]
    exact Vals.less_asym _ _ hab
theorem upto_same {g : List Pr} {L : List (List UInt8)} {i j : Nat} (h : Upto g L i j) (hi : i < g.length) (hm : g[i].n ∈ L.take j) : Upto g L (i + 1) j := by
  refine ⟨h.1, fun p hp => ?_, fun n hn => ?_⟩
  · rw [List.take_succ_eq_append_getElem hi] at hp
    rcases List.mem_append.1 hp with hp | hp
    · exact h.2.1 p hp
    · simp at hp; subst hp; exact hm
  · rw [List.take_succ_eq_append_getElem hi]
    exact asked_app.2 (.inl (h.2.2 n hn))
theorem upto_next {f g : List Pr} {S : List UInt8 → Sp} {L : List (List UInt8)} (hg : Good f g S L) {i j : Nat} (h : Upto g L i j) (hi : i < g.length) (hl : ∀ (hj : 0 < j), L[j - 1]'(by have := h.1; omega) ≠ g[i].n) :
    ∃ hj : j < L.length, L[j] = g[i].n ∧ Upto g L (i + 1) (j + 1) ∧ ¬ Asked (g.take i) g[i].n := by
  have hs := List.pairwise_iff_getElem.1 hg.rise
  have hL := List.pairwise_iff_getElem.1 hg.names.1
  have hx : g[i].n ∈ L := (hg.names.2 _).2 ((hg.asked _).1 ⟨_, List.getElem_mem hi, rfl⟩)
  obtain ⟨k, hk, e⟩ := List.getElem_of_mem hx
  have hno : ∀ {m n : Nat} (hm : m < L.length) (hn : n < L.length), m < n → L[m] ≠ L[n] := fun hm hn hmn e => by
    have := hL _ _ hm hn hmn
    rw [e, Vals.less_irr] at this
    cases this
  have hge : j ≤ k := by
    refine Nat.le_of_not_lt fun hkj => ?_
    have hj1 : j - 1 < L.length := by have := h.1; omega
    have hne : k ≠ j - 1 := fun e2 => hl (by omega) (by subst e2; exact e)
    have h1 := hL k (j - 1) hk hj1 (by omega)
    have h2 : L[j - 1] ∈ L.take j := List.mem_take_iff_getElem.2 ⟨j - 1, by omega, by simp⟩
    obtain ⟨p, hp, hpn⟩ := h.2.2 _ h2
    obtain ⟨q, hq, rfl⟩ := List.getElem_of_mem hp
    rw [List.length_take] at hq
    rw [List.getElem_take] at hpn
    have h3 := hs q i (by omega) hi (by omega)
    rw [hpn, ← e, h1] at h3
    cases h3
  have hle : k ≤ j := by
    refine Nat.le_of_not_lt fun hjk => ?_
    have hj : j < L.length := by omega
    have h1 := hL j k hj hk hjk
    obtain ⟨p, hp, hpn⟩ := (hg.asked _).2 ((hg.names.2 _).1 (List.getElem_mem hj))
    obtain ⟨q, hq, rfl⟩ := List.getElem_of_mem hp
    by_cases hqi : q < i
    · have := h.2.1 g[q] (List.mem_take_iff_getElem.2 ⟨q, by omega, rfl⟩)
      rw [hpn] at this
      obtain ⟨m, hm, e2⟩ := List.mem_take_iff_getElem.1 this
      exact hno (by omega) hj (by omega) e2
    · by_cases hqe : q = i
      · subst hqe
        exact hno hj hk hjk (hpn.symm.trans e.symm)
      · have h3 := hs i q hi hq (by omega)
        rw [hpn, ← e, h1] at h3
        cases h3
  obtain rfl : k = j := by omega
  refine ⟨hk, e, ⟨hk, fun p hp => ?_, fun n hn => ?_⟩, fun ⟨p, hp, hpn⟩ => ?_⟩
  · rw [List.take_succ_eq_append_getElem hi] at hp
    rw [List.take_succ_eq_append_getElem hk]
    rcases List.mem_append.1 hp with hp | hp
    · exact List.mem_append.2 (.inl (h.2.1 p hp))
    · simp at hp; subst hp; simp [e]
  · rw [List.take_succ_eq_append_getElem hi]
    rw [List.take_succ_eq_append_getElem hk] at hn
    rcases List.mem_append.1 hn with hn | hn
    · exact asked_app.2 (.inl (h.2.2 n hn))
    · simp at hn; subst hn; exact asked_app.2 (.inr ⟨g[i], by simp, e.symm⟩)
  · have := h.2.1 p hp
    rw [hpn, ← e] at this
    obtain ⟨m, hm, e2⟩ := List.mem_take_iff_getElem.1 this
    exact hno (by omega) hk (by omega) e2
theorem upto_end {f g : List Pr} {S : List UInt8 → Sp} {L : List (List UInt8)} (hg : Good f g S L) {j : Nat} (h : Upto g L g.length j) : L.take j = L := by
  refine List.take_of_length_le (Nat.le_of_not_lt fun hj => ?_)
  obtain ⟨p, hp, hpn⟩ := (hg.asked _).2 ((hg.names.2 _).1 (List.getElem_mem hj))
  have := h.2.1 p (by rw [List.take_length]; exact hp)
  rw [hpn] at this
  obtain ⟨m, hm, e2⟩ := List.mem_take_iff_getElem.1 this
  have hL := List.pairwise_iff_getElem.1 hg.names.1 m j (by omega) hj (by omega)
  rw [e2, Vals.less_irr] at hL
  cases hL
theorem of_rest {g : List Pr} {i : Nat} {n : List UInt8} (h : ¬ Asked (g.take i) n) : of (g.drop i) n = of g n := by
  have e : of g n = of (g.take i) n ++ of (g.drop i) n := by rw [← of_app, List.take_append_drop]
  rw [e, show of (g.take i) n = [] from List.filter_eq_nil_iff.2 fun p hp => by simp; exact fun k => h ⟨p, hp, k⟩]
  rfl
end Fil
end Go.Proofs.YtlbendiggdmljaaGreat
namespace Go.Proofs.YtlbendiggdmljaaGreat
open Go.RowKit Go.Sort Spans Op
theorem op_append_a2 {w : World} {o : Oper} {a : Act} {K : Act → World → Prop} {Q : Exit → Act → World → Prop} (s x : Operand)
    (ho : o.op = .call { callee := .builtin .append, args := #[s, x], argTypes := #[23, 23] }) (base : Nat)
    (v : Value) (es : List Ev.At) (hs : a.eval s = v) (hown : OwnA w base v es) (A : Option Addr) (fs : List Ev.At) (m c : Nat) (hx : a.eval x = .slice A m c) (hr : RdA w A fs) (hm : fs.length = m)
    (hlb : (es.length + m) * 48 ≤ 140737488355328) (hbase : base ≤ w.heap.size)
    (h : ∀ v' w', OwnA w' base v' (es ++ fs) → (∀ w0, Below base w0 w → Below base w0 w') → w.grownBy w' v.ownBlock → K (a.put o.dst v') w') : Oper.wp Tryz.prog o a w K Q := by
  obtain ⟨v', w', hrun, h2, h3, h4⟩ := run_append_a w base o.type v es hown A fs m c hr hm hlb hbase
  unfold Oper.wp execOp
  simp only [ho, resolve, invoke, builtin, Sem.run_bind, Sem.run_pure, Result.andThen_ok, List.map_toArray, List.map_cons, List.map_nil, hs, hx, hrun]
  exact h v' w' h2 (fun w0 hb => hb.grown h3 hbase hown.base_le) h3
theorem cell_gr {w : World} {p : Addr} {v : Value} (hp : p.block < w.heap.size) (h : w.cell? p = some v) (n : Nat) (os : Array Obj) : (grow (w.drewN n) os).cell? p = some v := ((((Grown.refl w).more n os).below.cell (p := p) hp).trans h)
theorem evOf_n {L : List (List UInt8)} {S : List UInt8 → Sp} {q : Nat} (h : q < (Fil.evOf (L.take (q + 1)) S).length) (hq : q < L.length) : ((Fil.evOf (L.take (q + 1)) S)[q]).n = L[q] := by simp [Fil.evOf, Fil.atOf]
theorem take_drop_snoc {g : List Pr} {i k : Nat} (hik : i ≤ k) (hk : k < g.length) : (g.take (k + 1)).drop i = (g.take k).drop i ++ [g[k]] := by
  rw [List.take_succ_eq_append_getElem hk, List.drop_append_of_le_length (by rw [List.length_take]; omega)]
theorem of_snoc (l : List Pr) (p : Pr) (n : List UInt8) : Fil.of (l ++ [p]) n = if p.n = n then Fil.of l n ++ [p] else Fil.of l n := by
  rw [Fil.of_app]
  by_cases h : p.n = n <;> simp [Fil.of, h]
set_option maxRecDepth 100000 in
set_option maxHeartbeats 8000000 in
theorem meeting_at (f g0 : List Pr) (S : List UInt8 → Sp) (L : List (List UInt8)) (hg0 : Fil.Good f g0 S L) (A : Option Addr) (n c : Nat) (hn : g0.length = n) (w : World) (hr : RdQ w A g0) :
    Calls Tryz.prog 32 #[.slice A n c, .string ⟨#[]⟩, .agg #[.int .i64 0, .int .i64 0, .string ⟨#[]⟩]] w fun e w' => ∃ A' m c', e = .returned (.slice A' m c') ∧ (Fil.evOf L S).length = m ∧ m ≤ c' ∧ RdA w' A' (Fil.evOf L S) ∧ Below w.heap.size w w' := by
  have HN := Lib.hid hn
  have HG := Lib.hid hg0
  have HR := Lib.hid hr
  have hn24 : n ≤ 24 := by rw [← hn]; exact hg0.len
  have hL24 : L.length ≤ 24 := Fil.names_few hg0
  have hb0 : Hid (Below w.heap.size w (w.alloc (.cells #[.int .i64 0, .int .i64 0, .string ⟨#[]⟩] 33))) := (Below.refl _ _).alloc (Nat.le_refl _) _
  have hu0 : Hid (Fil.Upto g0 L 0 0) := Fil.upto_start g0 L
  clear hn hg0 hr
  go_enter Tryz.func32, Tryz.ntmps32
  go_wp2_with fail
  generalize w.alloc (.cells #[.int .i64 0, .int .i64 0, .string ⟨#[]⟩] 33) = w1 at *
  go_loopg [7, 8] n (fun gg s7 s8 wr => ∃ (i j : Nat) (A6 : Option Addr) (c6 : Nat), i ≤ n ∧ n - i ≤ gg ∧ s8 = .int .i64 (i : Int) ∧ s7 = .slice A6 j c6 ∧ Hid (Fil.Upto g0 L i j) ∧ Hid (OwnA wr w.heap.size (.slice A6 j c6) (Fil.evOf (L.take j) S)) ∧ Hid (Below w.heap.size w wr))
  case atStart => exact ⟨0, 0, none, 0, Nat.zero_le _, by omega, rfl, rfl, hu0, OwnA.none_ _ _, hb0⟩
  case round =>
    obtain ⟨i, j, A6, c6, hi, hgg, rfl, rfl, HU, HO, HB⟩ := hrel
    clear hb0 hu0
    have hjL0 : j ≤ L.length := HU.out.1
    by_cases hlt : i < n
    · have hi' : i < g0.length := by rw [HN.out]; exact hlt
      obtain ⟨g, off, rfl, hgw, cw0, _⟩ := RdQ.at5 HR.out hi'
      obtain ⟨x, hx⟩ : ∃ x, g0[i] = x := ⟨_, rfl⟩
      have HX := Lib.hid hx
      rw [hx] at cw0
      obtain ⟨xn, xo, xk, xi, xt⟩ := x
      dsimp only at cw0
      have hnw : w.cell? ⟨g, off + i * 5, none⟩ = some (.string ⟨xn.toArray⟩) := cw0
      have hw5 : (i : Int) < (n : Int) := by omega
      have hnr : wr.cell? ⟨g, off + i * 5, none⟩ = some (.string ⟨xn.toArray⟩) := (HB.out.cell (p := ⟨g, off + i * 5, none⟩) hgw).trans hnw
      have hgr : g < wr.heap.size := Nat.lt_of_lt_of_le hgw HB.out.size
      have z0 := fun n os => cell_gr (w := wr) (p := ⟨g, off + i * 5, none⟩) hgr hnr n os
      have hxl : xn.length ≤ 16 ∧ 1 ≤ xn.length := by
        have := Fil.name_len HG.out.again.sound.2 ⟨g0[i], List.getElem_mem hi', rfl⟩
        rw [HX.out] at this
        exact ⟨this.2, this.1⟩
      clear hx cw0
      by_cases hsame : ∃ hj : 0 < j, L[j - 1]'(by omega) = xn
      · obtain ⟨hj0, hjn⟩ := hsame
        obtain ⟨q, rfl⟩ : ∃ q, j = q + 1 := ⟨j - 1, by omega⟩
        have hq : q < L.length := by omega
        have hjn' : L[q] = xn := hjn
        have HU2 : Hid (Fil.Upto g0 L (i + 1) (q + 1)) := Fil.upto_same HU.out hi' (by rw [HX.out, ← hjn']; exact List.mem_take_iff_getElem.2 ⟨q, by omega, rfl⟩)
        obtain ⟨_, _, e1, _, hrd⟩ := OwnA.rd HO.out
        injection e1 with e1 e2 e3
        subst e1
        have hql : q < (Fil.evOf (L.take (q + 1)) S).length := by unfold Fil.evOf; rw [List.length_map, List.length_take]; omega
        obtain ⟨g6, off6, rfl, hg6, hC6⟩ := hrd.at_ hql
        have hen : ((Fil.evOf (L.take (q + 1)) S)[q]).n = xn := by
          rw [evOf_n hql hq]
          exact hjn'
        have f0 := hC6.1
        rw [hen] at f0
        have y0 := fun n os => cell_gr (w := wr) (p := ⟨g6, off6 + q * 4, none⟩) hg6 f0 n os
        have hwq : IntKind.i64.wrap (q : Int) = (q : Int) := by rw [IntKind.wrap_i64]; omega
        have hqq : (q : Int) < (q : Int) + 1 := by omega
        have hq1 : (0 : Int) ≤ (q : Int) := by omega
        have hq2 : q < q + 1 := by omega
        have hq0 : (0 : Int) < ((q + 1 : Nat) : Int) := by omega
        have hd : (xn == xn) = true := by simp
        clear hjn hjn' hen hC6 f0 hql hrd e2 e3 hnr hj0
        go_wp2_with fail
        (refine hq_region mixedT (by kernel_rfl) ?_; (repeat (refine hq_step (fun K hK => ?_); go_simp; first | (refine hK _ ?_; clear hK K) | (apply Exists.intro; refine ⟨fun _ => ?_, hK _ ?_⟩; (fail); clear hK K))); refine hq_nil ?_; intro _ hw'; obtain ⟨⟨nq, osq⟩, hw''⟩ := hw'; subst hw'')
        have HB2 := Lib.hid (below_next HB.out (Nat.le_refl _) ((Grown.refl wr).more nq osq).below)
        have HO2 := Lib.hid (OwnA.below HO.out ((Grown.refl wr).more nq osq).below)
        generalize grow (wr.drewN nq) osq = w2 at *
        clear z0 y0 hwq hqq hq0 hq1 hq2 hd
        go_wp2_with fail
        go_roundg (n - (i + 1))
        case measure => omega
        case rel => exact ⟨i + 1, q + 1, _, c6, by omega, Nat.le_refl _, by go_num, rfl, HU2, HO2, HB2⟩
      · obtain ⟨hjL, hJ, hU2, hnA⟩ := Fil.upto_next HG.out HU.out hi' (fun hj e => hsame ⟨hj, by rw [HX.out] at e; exact e⟩)
        rw [HX.out] at hJ hnA
        have HJ := Lib.hid hJ
        have HU2 := Lib.hid hU2
        have HNA := Lib.hid hnA
        clear hU2 hnA
        have hOlt : Hid (∀ q, (Value.slice A6 j c6).ownBlock = some q → q < wr.heap.size) := fun q hq => (HO.out.lt q hq).2
        have hne0 : (xn == []) = false := by
          cases xn with
          | nil => exact absurd hxl.2 (by decide)
          | cons _ _ => rfl
        rcases Nat.eq_zero_or_pos j with hj0 | hj0
        · subst hj0
          clear hsame
          go_wp2_with fail
          (refine hq_region mixedT (by kernel_rfl) ?_; (repeat (refine hq_step (fun K hK => ?_); go_simp; first | (refine hK _ ?_; clear hK K) | (apply Exists.intro; refine ⟨fun _ => ?_, hK _ ?_⟩; (fail); clear hK K))); refine hq_nil ?_; intro _ hw'; obtain ⟨⟨nq, osq⟩, hw''⟩ := hw'; subst hw'')
          have HB2 := Lib.hid (below_next HB.out (Nat.le_refl _) ((Grown.refl wr).more nq osq).below)
          have HO2 := Lib.hid (OwnA.below HO.out ((Grown.refl wr).more nq osq).below)
          have hs2 : wr.heap.size ≤ (grow (wr.drewN nq) osq).heap.size := ((Grown.refl wr).more nq osq).below.size
          generalize grow (wr.drewN nq) osq = w2 at *
          have HLT2 : Hid (∀ q, (Value.slice A6 0 c6).ownBlock = some q → q < w2.heap.size) := fun q hq => Nat.lt_of_lt_of_le (hOlt.out q hq) hs2
          clear z0 hs2 HO HB hnr hgr
          have hst : Hid (Fil.of ((g0.take i).drop i) xn = []) := by show _ = _; rw [List.drop_eq_nil_of_le (by rw [List.length_take]; omega)]; rfl
          go_wp2_with fail
          go_loopg [9, 10] n (fun g2 s9 s10 wy => ∃ (k : Nat) (A9 : Option Addr) (m9 c9 : Nat), i ≤ k ∧ k ≤ n ∧ n - k ≤ g2 ∧ s10 = .int .i64 (k : Int) ∧ s9 = .slice A9 m9 c9 ∧ m9 ≤ k ∧ Hid ((Fil.of ((g0.take k).drop i) xn).length = m9) ∧ Hid (OwnQ wy w2.heap.size (.slice A9 m9 c9) (Fil.of ((g0.take k).drop i) xn)) ∧ Hid (Below w2.heap.size w2 wy))
          case atStart => exact ⟨i, none, 0, 0, Nat.le_refl _, by omega, by omega, rfl, rfl, by omega, by rw [hst.out]; rfl, by rw [hst.out]; exact OwnK.none_ _ _, Below.refl _ _⟩
          case round =>
            obtain ⟨k, A9, m9, c9, hik, hk, hg2, rfl, rfl, hmk, HM9, HO9, HB9⟩ := hrel
            clear hst
            have HBy := Lib.hid (below_next HB2.out (Nat.le_refl _) HB9.out)
            by_cases hkn : k < n
            · have hk' : k < g0.length := by rw [HN.out]; exact hkn
              obtain ⟨g', off', e1, hg', d0, d1, d2, d3, d4⟩ := RdQ.at5 (RdK.below HR.out HBy.out) hk'
              injection e1 with e1
              injection e1 with e1 e2
              subst e1
              subst e2
              obtain ⟨y, hy⟩ : ∃ y, g0[k] = y := ⟨_, rfl⟩
              have HY := Lib.hid hy
              rw [hy] at d0 d1 d2 d3 d4
              clear hy
              obtain ⟨yn, yo, yk, yi, yt⟩ := y
              dsimp only at d0 d1 d2 d3 d4
              have hx0 : wr.cell? ⟨g, off + i * 5, none⟩ = some (.string ⟨xn.toArray⟩) := (HBy.out.cell (p := ⟨g, off + i * 5, none⟩) hgw).trans hnw
              have y0 := fun n os => cell_gr (w := wr) (p := ⟨g, off + k * 5, none⟩) hg' d0 n os
              have y1 := fun n os => cell_gr (w := wr) (p := ⟨g, off + k * 5 + 1, none⟩) hg' d1 n os
              have y2 := fun n os => cell_gr (w := wr) (p := ⟨g, off + k * 5 + 2, none⟩) hg' d2 n os
              have y3 := fun n os => cell_gr (w := wr) (p := ⟨g, off + k * 5 + 3, none⟩) hg' d3 n os
              have y4 := fun n os => cell_gr (w := wr) (p := ⟨g, off + k * 5 + 4, none⟩) hg' d4 n os
              have z0 := fun n os => cell_gr (w := wr) (p := ⟨g, off + i * 5, none⟩) hg' hx0 n os
              have hw6 : (k : Int) < (n : Int) := by omega
              have hsn : Hid (Fil.of ((g0.take (k + 1)).drop i) xn = if yn = xn then Fil.of ((g0.take k).drop i) xn ++ [⟨yn, yo, yk, yi, yt⟩] else Fil.of ((g0.take k).drop i) xn) := by
                show _ = _
                rw [take_drop_snoc hik hk', HY.out]
                exact of_snoc _ _ _
              clear d0 d1 d2 d3 d4 hx0
              by_cases hyx : yn = xn
              · have hd : (yn == xn) = true := by simpa using hyx
                have HYX := Lib.hid hyx
                clear hyx
                go_wp2_with fail
                (refine hq_region mixedT (by kernel_rfl) ?_; (repeat (refine hq_step (fun K hK => ?_); go_simp; first | (refine hK _ ?_; clear hK K) | (apply Exists.intro; refine ⟨fun _ => ?_, hK _ ?_⟩; (fail); clear hK K))); refine hq_nil ?_; intro _ hw'; obtain ⟨⟨nq, osq⟩, hw''⟩ := hw'; subst hw'')
                have c0 := y0 nq osq
                have c1 := y1 nq osq
                have c2 := y2 nq osq
                have c3 := y3 nq osq
                have c4 := y4 nq osq
                have hgb := ((Grown.refl wr).more nq osq).below
                have hO8 := OwnK.below HO9.out hgb
                have hB8 := below_next HB9.out (Nat.le_refl _) hgb
                have hg8 : g < (grow (wr.drewN nq) osq).heap.size := Nat.lt_of_lt_of_le hg' hgb.size
                clear y0 y1 y2 y3 y4 z0 hgb HO9 HB9 HBy hd
                generalize grow (wr.drewN nq) osq = w8 at *
                have hrx := rdk_one layP w8 ⟨yn, yo, yk, yi, yt⟩ 35 #[.string ⟨yn.toArray⟩, .int .i64 yo, .int .i64 yk, .int .i64 yi, .string ⟨yt.toArray⟩] rfl
                have hbb : Below w8.heap.size w8 (w8.alloc (.cells #[.string ⟨yn.toArray⟩, .int .i64 yo, .int .i64 yk, .int .i64 yi, .string ⟨yt.toArray⟩] 35)) := (Below.refl _ _).alloc (Nat.le_refl _) _
                have hO10 := OwnK.below hO8 hbb
                have hB10 := below_next hB8 (Nat.le_refl _) hbb
                obtain ⟨lk, hlk⟩ : ∃ l, Fil.of ((g0.take k).drop i) xn = l := ⟨_, rfl⟩
                have HLK := Lib.hid hlk
                rw [hlk] at hO10 HM9
                clear hlk hO8 hbb
                have hs10 : w2.heap.size ≤ (w8.alloc (.cells #[.string ⟨yn.toArray⟩, .int .i64 yo, .int .i64 yk, .int .i64 yi, .string ⟨yt.toArray⟩] 35)).heap.size := hB10.size
                go_wp2_with (at_builtin; refine wpList_append_k layP (by rfl) (.tmp 55) (.tmp 60) 22 underQ rfl w2.heap.size _ lk (by rfl) hO10 _ [⟨yn, yo, yk, yi, yt⟩] 1 1 (by rfl) hrx rfl (by rw [maxLen_num, HM9.out]; omega) (by show (lk.length + 1) * 56 ≤ _; rw [HM9.out]; omega) hs10 ?_; intro v6 w6 ho6 hB6' hg6' hl6'; have hlen : (lk ++ [(⟨yn, yo, yk, yi, yt⟩ : Pr)]).length = m9 + 1 := (by rw [List.length_append, HM9.out]; rfl); obtain ⟨A11, c11, hv11, hc11, hr11⟩ := OwnK.form ho6 hlen; subst hv11)
                have HB6 := Lib.hid (hB6' w2 hB10)
                have HO6 : Hid (OwnQ w6 w2.heap.size (.slice A11 (m9 + 1) c11) (Fil.of ((g0.take (k + 1)).drop i) xn)) := by
                  show OwnK _ _ _ _ _
                  rw [hsn.out, if_pos HYX.out, HLK.out]
                  exact ho6
                have HM6 : Hid ((Fil.of ((g0.take (k + 1)).drop i) xn).length = m9 + 1) := by
                  show _ = _
                  rw [hsn.out, if_pos HYX.out, HLK.out]
                  exact hlen
                clear hB6' hg6' hl6' ho6 hlen hr11 hrx hO10 hB10 hs10 c0 c1 c2 c3 c4 hsn
                go_wp2_with fail
                go_roundg (n - (k + 1))
                case measure => omega
                case rel => exact ⟨k + 1, A11, m9 + 1, c11, by omega, by omega, Nat.le_refl _, by go_num, rfl, by omega, HM6, HO6, HB6⟩
              · have hd : (yn == xn) = false := by simpa using hyx
                have HYX := Lib.hid hyx
                clear hyx
                go_wp2_with fail
                (refine hq_region mixedT (by kernel_rfl) ?_; (repeat (refine hq_step (fun K hK => ?_); go_simp; first | (refine hK _ ?_; clear hK K) | (apply Exists.intro; refine ⟨fun _ => ?_, hK _ ?_⟩; (fail); clear hK K))); refine hq_nil ?_; intro _ hw'; obtain ⟨⟨nq, osq⟩, hw''⟩ := hw'; subst hw'')
                have hgb := ((Grown.refl wr).more nq osq).below
                have HB6 := Lib.hid (below_next HB9.out (Nat.le_refl _) hgb)
                have HO6 : Hid (OwnQ (grow (wr.drewN nq) osq) w2.heap.size (.slice A9 m9 c9) (Fil.of ((g0.take (k + 1)).drop i) xn)) := by
                  show OwnK _ _ _ _ _
                  rw [hsn.out, if_neg HYX.out]
                  exact OwnK.below HO9.out hgb
                have HM6 : Hid ((Fil.of ((g0.take (k + 1)).drop i) xn).length = m9) := by
                  show _ = _
                  rw [hsn.out, if_neg HYX.out]
                  exact HM9.out
                clear y0 y1 y2 y3 y4 z0 hgb HO9 HB9 HBy hd hsn
                generalize grow (wr.drewN nq) osq = w8 at *
                go_wp2_with fail
                go_roundg (n - (k + 1))
                case measure => omega
                case rel => exact ⟨k + 1, A9, m9, c9, by omega, by omega, Nat.le_refl _, by go_num, rfl, by omega, HM6, HO6, HB6⟩
            · obtain rfl : k = n := by omega
              have hall : Fil.of ((g0.take k).drop i) xn = predsOf xn (S xn) := by
                rw [List.take_of_length_le (by rw [HN.out]; exact Nat.le_refl _), Fil.of_rest HNA.out]
                exact HG.out.of_ ((HG.out.asked _).1 (by have := List.getElem_mem hi'; exact ⟨_, this, by rw [HX.out]⟩))
              have hal := hall ▸ HM9.out
              have hO9 := hall ▸ HO9.out
              obtain ⟨_, _, e1, _, hrd⟩ := OwnK.rd hO9
              injection e1 with e1 e2 e3
              subst e1
              have hax : Fil.Asked f xn := (HG.out.asked _).1 ⟨_, List.getElem_mem hi', by rw [HX.out]⟩
              have hfin := HG.out.fine hax
              have hPB : ∀ p ∈ predsOf xn (S xn), p.n.length ≤ 100 ∧ p.t.length ≤ 100 ∧ -9223372036854775808 ≤ p.i ∧ p.i ≤ 9223372036854775807 := pbd_right (fun p hp => (hfin p hp).1)
              have HPB := Lib.hid hPB
              have HAL := Lib.hid hal
              have HRD := Lib.hid hrd
              have HCN : Hid (IsAll (predsOf xn (S xn)) (S xn)) := preds_all (HG.out.spans xn hax).1 (HG.out.pos hax) (Fil.name_len HG.out.sound.2 hax).1 (Fil.name_len HG.out.sound.2 hax).2
              clear hall hal hO9 hrd e2 e3 hax hfin hPB HO9 HM9
              go_wp2_with fail
              refine (fold_at A9 (predsOf xn (S xn)) m9 c9 HAL.out (by omega) HPB.out wr HRD.out).mono ?_
              rintro e w3 ⟨⟨rK, rlo, rhi, rf, rt, ro, rno⟩, hia, hrl, A7, n7, c7, rfl, hl7, hc7, ho7, hb7⟩
              have HSX : Hid (S xn = ⟨rK, rlo, rhi, rf, rt, ro, rno⟩) := HCN.out.one hia
              have hB3 := below_next HBy.out (Nat.le_refl _) hb7
              have hO3 := OwnA.below (OwnA.below HO2.out HB9.out) hb7
              have HB3 := Lib.hid hB3
              have HO3 := Lib.hid hO3
              have hs3 : w2.heap.size ≤ w3.heap.size := Nat.le_trans HB9.out.size hb7.size
              have HLT : Hid (∀ q, (Value.slice A6 0 c6).ownBlock = some q → q < w3.heap.size + 1) := fun q hq => by have := HLT2.out q hq; omega
              have hV1 := Blk.new w3 64 #[.int .i64 rK, .int .i64 rlo, .int .i64 rhi, .string ⟨rf.toArray⟩, .string ⟨rt.toArray⟩, .bool ro, .slice A7 n7 c7]
              have hbA : Below w3.heap.size w3 (w3.alloc (.cells #[.int .i64 rK, .int .i64 rlo, .int .i64 rhi, .string ⟨rf.toArray⟩, .string ⟨rt.toArray⟩, .bool ro, .slice A7 n7 c7] 64)) := (Below.refl _ _).alloc (Nat.le_refl _) _
              have hsA : (w3.alloc (.cells #[.int .i64 rK, .int .i64 rlo, .int .i64 rhi, .string ⟨rf.toArray⟩, .string ⟨rt.toArray⟩, .bool ro, .slice A7 n7 c7] 64)).heap.size = w3.heap.size + 1 := by simp
              have hVb : Blk ((w3.alloc (.cells #[.int .i64 rK, .int .i64 rlo, .int .i64 rhi, .string ⟨rf.toArray⟩, .string ⟨rt.toArray⟩, .bool ro, .slice A7 n7 c7] 64)).alloc (.cells #[.int .i64 rK, .int .i64 rlo, .string ⟨rf.toArray⟩] 33)) (w3.heap.size + 1) 33 #[.int .i64 rK, .int .i64 rlo, .string ⟨rf.toArray⟩] := by
                have := Blk.new (w3.alloc (.cells #[.int .i64 rK, .int .i64 rlo, .int .i64 rhi, .string ⟨rf.toArray⟩, .string ⟨rt.toArray⟩, .bool ro, .slice A7 n7 c7] 64)) 33 #[.int .i64 rK, .int .i64 rlo, .string ⟨rf.toArray⟩]
                rwa [hsA] at this
              have hbB : Below w3.heap.size w3 ((w3.alloc (.cells #[.int .i64 rK, .int .i64 rlo, .int .i64 rhi, .string ⟨rf.toArray⟩, .string ⟨rt.toArray⟩, .bool ro, .slice A7 n7 c7] 64)).alloc (.cells #[.int .i64 rK, .int .i64 rlo, .string ⟨rf.toArray⟩] 33)) := hbA.alloc (by simp) _
              have HBW := Lib.hid (below_next hB3 (Nat.le_refl _) hbB)
              have HOW := Lib.hid (OwnA.below hO3 hbB)
              have hV1' := Blk.below hV1 (Below.refl _ _ |>.alloc (Nat.le_refl _) (.cells #[.int .i64 rK, .int .i64 rlo, .string ⟨rf.toArray⟩] 33)) hV1.lt
              have hnm : ((w3.alloc (.cells #[.int .i64 rK, .int .i64 rlo, .int .i64 rhi, .string ⟨rf.toArray⟩, .string ⟨rt.toArray⟩, .bool ro, .slice A7 n7 c7] 64)).alloc (.cells #[.int .i64 rK, .int .i64 rlo, .string ⟨rf.toArray⟩] 33)).cell? ⟨g, off + i * 5, none⟩ = some (.string ⟨xn.toArray⟩) := (HBW.out.cell (p := ⟨g, off + i * 5, none⟩) hgw).trans hnw
              clear hia hrl hl7 hc7 ho7 hb7 hB3 hO3 hs3 hbA hbB hsA HO2 HB2 HB9 HBy HLT2 HCN HPB HAL HRD hOlt
              by_cases h4 : rK = 4
              · have HC4 : Hid (rlo = 0 ∧ rf = []) := by
                  have hc : Canon ⟨rK, rlo, rhi, rf, rt, ro, rno⟩ := by rw [← HSX.out]; exact (HG.out.spans xn ((HG.out.asked _).1 ⟨_, List.getElem_mem hi', by rw [HX.out]⟩)).1
                  have := kind_any hc h4
                  injection this with a1 a2 a3 a4
                  exact ⟨a2, a4⟩
                have HAT : Hid (Fil.atOf S xn = ⟨xn, 1, 0, []⟩) := by
                  show _ = _
                  unfold Fil.atOf
                  rw [HSX.out]
                  unfold Fil.firstV
                  simp [h4]
                obtain ⟨h50, h51⟩ := HC4.out
                subst h4
                subst h50
                subst h51
                clear HC4
                have hsA : (w3.alloc (.cells #[.int .i64 4, .int .i64 0, .int .i64 rhi, .string ⟨#[]⟩, .string ⟨rt.toArray⟩, .bool ro, .slice A7 n7 c7] 64)).heap.size = w3.heap.size + 1 := by simp
                have hWa := hVb.lt
                obtain ⟨v0, v1, v2, u0, u1, u2⟩ := blk3 hVb
                obtain ⟨x0, x1, _, x3, _⟩ := blk7 hV1'
                have hVc : Blk ((w3.alloc (.cells #[.int .i64 4, .int .i64 0, .int .i64 rhi, .string ⟨#[]⟩, .string ⟨rt.toArray⟩, .bool ro, .slice A7 n7 c7] 64)).alloc (.cells #[.int .i64 1, .int .i64 0, .string ⟨#[]⟩] 33)) (w3.heap.size + 1) 33 #[.int .i64 1, .int .i64 0, .string ⟨#[]⟩] := by
                  have := Blk.new (w3.alloc (.cells #[.int .i64 4, .int .i64 0, .int .i64 rhi, .string ⟨#[]⟩, .string ⟨rt.toArray⟩, .bool ro, .slice A7 n7 c7] 64)) 33 #[.int .i64 1, .int .i64 0, .string ⟨#[]⟩]
                  rwa [hsA] at this
                have hbC : Below w3.heap.size w3 ((w3.alloc (.cells #[.int .i64 4, .int .i64 0, .int .i64 rhi, .string ⟨#[]⟩, .string ⟨rt.toArray⟩, .bool ro, .slice A7 n7 c7] 64)).alloc (.cells #[.int .i64 1, .int .i64 0, .string ⟨#[]⟩] 33)) := ((Below.refl _ _).alloc (Nat.le_refl _) _).alloc (by simp) _
                have HBX := Lib.hid (below_next HB3.out (Nat.le_refl _) hbC)
                have HOX := Lib.hid (OwnA.below HO3.out hbC)
                have hny := (HBX.out.cell (p := ⟨g, off + i * 5, none⟩) hgw).trans hnw
                clear hbC hsA
                go_wp2_with fail
                clear v0 v1 v2 u0 u1 u2 x0 x1 x3 hV1 hV1' hVb HBW HOW hnm hWa
                have hnm := hny
                have HBW := HBX
                have HOW := HOX
                have hVb := hVc
                clear hny HBX HOX hVc
                generalize hW : (w3.alloc (.cells #[.int .i64 4, .int .i64 0, .int .i64 rhi, .string ⟨#[]⟩, .string ⟨rt.toArray⟩, .bool ro, .slice A7 n7 c7] 64)).alloc (.cells #[.int .i64 1, .int .i64 0, .string ⟨#[]⟩] 33) = W at *
                clear hW
                generalize w3.heap.size + 1 = Pv at *
                have hS0 : W.drew.cell? ⟨g, off + i * 5, none⟩ = some (.string ⟨xn.toArray⟩) ∧ Blk W.drew Pv 33 #[.int .i64 1, .int .i64 0, .string ⟨#[]⟩] := ⟨hnm, hVb⟩
                refine wp_region_held_drew (S := fun w' => w'.cell? ⟨g, off + i * 5, none⟩ = some (.string ⟨xn.toArray⟩) ∧ Blk w' Pv 33 #[.int .i64 1, .int .i64 0, .string ⟨#[]⟩]) (by kernel_rfl) hS0 (fun _ => ?_)
                refine wpAnyH_yes (i := 0) (d := 83) (v := ?_) rfl rfl (by kernel_rfl) (by kernel_rfl) (by kernel_rfl) (fun _ _ _ h => h) (by rfl) ?_ hS0 ?_
                rotate_left
                · intro w' hSw; obtain ⟨s0, sB⟩ := hSw; obtain ⟨t0, t1, t2, _⟩ := blk3 sB; go_simp <;> with_reducible rfl
                simp only [Act.put, List.setIfInBounds_toArray, List.set_cons_zero, List.set_cons_succ]
                refine wpAnyH_yes (i := 1) (d := 84) (v := ?_) rfl rfl (by kernel_rfl) (by kernel_rfl) (by kernel_rfl) (fun _ _ _ h => h) (by rfl) ?_ hS0 ?_
                rotate_left
                · intro w' hSw; obtain ⟨s0, sB⟩ := hSw; obtain ⟨t0, t1, t2, _⟩ := blk3 sB; go_simp <;> with_reducible rfl
                simp only [Act.put, List.setIfInBounds_toArray, List.set_cons_zero, List.set_cons_succ]
                refine wpAnyH_yes (i := 2) (d := 85) (v := ?_) rfl rfl (by kernel_rfl) (by kernel_rfl) (by kernel_rfl) (fun _ _ _ h => h) (by rfl) ?_ hS0 ?_
                rotate_left
                · intro w' hSw; obtain ⟨s0, sB⟩ := hSw; obtain ⟨t0, t1, t2, _⟩ := blk3 sB; go_simp <;> with_reducible rfl
                simp only [Act.put, List.setIfInBounds_toArray, List.set_cons_zero, List.set_cons_succ]
                refine wpAnyH_yes (i := 3) (d := 86) (v := ?_) rfl rfl (by kernel_rfl) (by kernel_rfl) (by kernel_rfl) (fun _ _ _ h => h) (by rfl) ?_ hS0 ?_
                rotate_left
                · intro w' hSw; obtain ⟨s0, sB⟩ := hSw; obtain ⟨t0, t1, t2, _⟩ := blk3 sB; go_simp <;> with_reducible rfl
                simp only [Act.put, List.setIfInBounds_toArray, List.set_cons_zero, List.set_cons_succ]
                refine wpAnyH_yes (i := 4) (d := 87) (v := ?_) rfl rfl (by kernel_rfl) (by kernel_rfl) (by kernel_rfl) (fun _ _ _ h => h) (by rfl) ?_ hS0 ?_
                rotate_left
                · intro w' hSw; obtain ⟨s0, sB⟩ := hSw; obtain ⟨t0, t1, t2, _⟩ := blk3 sB; go_simp <;> with_reducible rfl
                simp only [Act.put, List.setIfInBounds_toArray, List.set_cons_zero, List.set_cons_succ]
                refine wpAnyH_yes (i := 5) (d := 88) (v := ?_) rfl rfl (by kernel_rfl) (by kernel_rfl) (by kernel_rfl) (fun _ _ _ h => h) (by rfl) ?_ hS0 ?_
                rotate_left
                · intro w' hSw; obtain ⟨s0, sB⟩ := hSw; obtain ⟨t0, t1, t2, _⟩ := blk3 sB; go_simp <;> with_reducible rfl
                simp only [Act.put, List.setIfInBounds_toArray, List.set_cons_zero, List.set_cons_succ]
                refine wpAnyH_yes (i := 6) (d := 89) (v := ?_) rfl rfl (by kernel_rfl) (by kernel_rfl) (by kernel_rfl) (fun _ _ _ h => h) (by rfl) ?_ hS0 ?_
                rotate_left
                · intro w' hSw; obtain ⟨s0, sB⟩ := hSw; obtain ⟨t0, t1, t2, _⟩ := blk3 sB; go_simp <;> with_reducible rfl
                simp only [Act.put, List.setIfInBounds_toArray, List.set_cons_zero, List.set_cons_succ]
                refine wpAnyH_yes (i := 7) (d := 90) (v := ?_) rfl rfl (by kernel_rfl) (by kernel_rfl) (by kernel_rfl) (fun _ _ _ h => h) (by rfl) ?_ hS0 ?_
                rotate_left
                · intro w' hSw; obtain ⟨s0, sB⟩ := hSw; obtain ⟨t0, t1, t2, _⟩ := blk3 sB; go_simp <;> with_reducible rfl
                simp only [Act.put, List.setIfInBounds_toArray, List.set_cons_zero, List.set_cons_succ]
                have hB3 := HBW.out.drew
                have hO3 : OwnA W.drew w.heap.size (.slice A6 0 c6) (Fil.evOf (L.take 0) S) := OwnA.below HOW.out (Below.refl _ _).drew
                clear HBW HOW hnm hVb
                generalize W.drew = w4 at *
                refine wpAnyH_one (i := 8) (by kernel_rfl) rfl (by rfl) (fun Ka hKa => ?_)
                go_simp
                have hbb : Below w4.heap.size w4 (w4.alloc (.cells #[.string ⟨xn.toArray⟩, .int .i64 1, .int .i64 0, .string ⟨#[]⟩] 53)) := (Below.refl _ _).alloc (Nat.le_refl _) _
                have hR4 : RdA (w4.alloc (.cells #[.string ⟨xn.toArray⟩, .int .i64 1, .int .i64 0, .string ⟨#[]⟩] 53)) (some ⟨w4.heap.size, 0, none⟩) [⟨xn, 1, 0, []⟩] := rda_one w4 ⟨xn, 1, 0, []⟩ 53
                have hO4 := OwnA.below hO3 hbb
                have hB4 := below_next hB3 (Nat.le_refl _) hbb
                have hS1 : (w4.alloc (.cells #[.string ⟨xn.toArray⟩, .int .i64 1, .int .i64 0, .string ⟨#[]⟩] 53)).cell? ⟨g, off + i * 5, none⟩ = some (.string ⟨xn.toArray⟩) ∧ Blk (w4.alloc (.cells #[.string ⟨xn.toArray⟩, .int .i64 1, .int .i64 0, .string ⟨#[]⟩] 53)) Pv 33 #[.int .i64 1, .int .i64 0, .string ⟨#[]⟩] := ⟨(hbb.cell (p := ⟨g, off + i * 5, none⟩) (by show g < _; have := hB3.size; omega)).trans hS0.1, Blk.below hS0.2 hbb hS0.2.lt⟩
                refine hKa.out _ _ hS1 ?_
                clear hKa Ka hO3 hB3 hbb hS0
                generalize w4.alloc (.cells #[.string ⟨xn.toArray⟩, .int .i64 1, .int .i64 0, .string ⟨#[]⟩] 53) = w5 at *
                refine wpAnyH_one (i := 9) (by kernel_rfl) rfl (by rfl) (fun Ka hKa => ?_)
                have hlj : (Fil.evOf (L.take 0) S).length = 0 := by unfold Fil.evOf; rw [List.length_map, List.length_take]; omega
                refine op_append_a2 (.tmp 83) (.tmp 91) rfl w.heap.size (.slice A6 0 c6) (Fil.evOf (L.take 0) S) (by rfl) hO4 (some ⟨w4.heap.size, 0, none⟩) [⟨xn, 1, 0, []⟩] 1 1 (by rfl) hR4 rfl (by rw [hlj]; omega) hB4.size ?_
                intro v6 w6 hO6 hb6' hg6
                have hB6 := hb6' w hB4
                have hS2 : w6.cell? ⟨g, off + i * 5, none⟩ = some (.string ⟨xn.toArray⟩) ∧ Blk w6 Pv 33 #[.int .i64 1, .int .i64 0, .string ⟨#[]⟩] := ⟨(hB6.cell (p := ⟨g, off + i * 5, none⟩) hgw).trans hnw, (hg6.block _ hS1.2.lt (fun e => Nat.lt_irrefl _ (HLT.out _ e.symm))).trans hS1.2⟩
                have hE6 : Fil.evOf (L.take (0 + 1)) S = Fil.evOf (L.take 0) S ++ [⟨xn, 1, 0, []⟩] := by
                  unfold Fil.evOf
                  rw [List.take_succ_eq_append_getElem hjL, List.map_append, HJ.out]
                  simp only [List.map_cons, List.map_nil]
                  rw [HAT.out]
                rw [← hE6] at hO6
                have hl6 : (Fil.evOf (L.take (0 + 1)) S).length = 0 + 1 := by rw [hE6, List.length_append, hlj]; rfl
                obtain ⟨A9, c9, hv9, hc9, hr9⟩ := OwnA.rd hO6
                rw [hl6] at hv9 hc9
                subst hv9
                have HO6 := Lib.hid hO6
                have HB6 := Lib.hid hB6
                have HC9 := Lib.hid hc9
                refine hKa.out _ _ hS2 ?_
                clear hKa Ka hO4 hB4 hR4 hS1 hb6' hg6 hO6 hB6 hE6 hl6 hr9 hlj hc9
                simp only [Act.put, List.setIfInBounds_toArray, List.set_cons_zero, List.set_cons_succ]
                refine wpAnyH_yes (i := 10) (d := 7) (v := ?_) rfl rfl (by kernel_rfl) (by kernel_rfl) (by kernel_rfl) (fun _ _ _ h => h) (by rfl) ?_ hS2 ?_
                rotate_left
                · intro w' hSw; obtain ⟨s0, sB⟩ := hSw; go_simp <;> with_reducible rfl
                simp only [Act.put, List.setIfInBounds_toArray, List.set_cons_zero, List.set_cons_succ]
                refine wpAnyH_done (by kernel_rfl) ?_ _
                clear hS2
                go_wp2_with fail
                go_roundg (k - (i + 1))
                case measure => omega
                case rel => exact ⟨i + 1, 0 + 1, A9, c9, by omega, Nat.le_refl _, by go_num, rfl, HU2, HO6, HB6⟩
              · have v4 : (rK == 4) = false := beq_eq_false_iff_ne.2 h4
                have HAT : Hid (Fil.atOf S xn = ⟨xn, rK, rlo, rf⟩) := by
                  show _ = _
                  unfold Fil.atOf
                  rw [HSX.out]
                  unfold Fil.firstV
                  simp [h4]
                clear h4
                obtain ⟨x0, x1, _, x3, _⟩ := blk7 hV1'
                go_wp2_with fail
                clear x0 x1 x3 hV1 hV1' v4
                generalize hW : (w3.alloc (.cells #[.int .i64 rK, .int .i64 rlo, .int .i64 rhi, .string ⟨rf.toArray⟩, .string ⟨rt.toArray⟩, .bool ro, .slice A7 n7 c7] 64)).alloc (.cells #[.int .i64 rK, .int .i64 rlo, .string ⟨rf.toArray⟩] 33) = W at *
                clear hW
                generalize w3.heap.size + 1 = Pv at *
                have hS0 : W.drew.cell? ⟨g, off + i * 5, none⟩ = some (.string ⟨xn.toArray⟩) ∧ Blk W.drew Pv 33 #[.int .i64 rK, .int .i64 rlo, .string ⟨rf.toArray⟩] := ⟨hnm, hVb⟩
                refine wp_region_held_drew (S := fun w' => w'.cell? ⟨g, off + i * 5, none⟩ = some (.string ⟨xn.toArray⟩) ∧ Blk w' Pv 33 #[.int .i64 rK, .int .i64 rlo, .string ⟨rf.toArray⟩]) (by kernel_rfl) hS0 (fun _ => ?_)
                refine wpAnyH_yes (i := 0) (d := 83) (v := ?_) rfl rfl (by kernel_rfl) (by kernel_rfl) (by kernel_rfl) (fun _ _ _ h => h) (by rfl) ?_ hS0 ?_
                rotate_left
                · intro w' hSw; obtain ⟨s0, sB⟩ := hSw; obtain ⟨t0, t1, t2, _⟩ := blk3 sB; go_simp <;> with_reducible rfl
                simp only [Act.put, List.setIfInBounds_toArray, List.set_cons_zero, List.set_cons_succ]
                refine wpAnyH_yes (i := 1) (d := 84) (v := ?_) rfl rfl (by kernel_rfl) (by kernel_rfl) (by kernel_rfl) (fun _ _ _ h => h) (by rfl) ?_ hS0 ?_
                rotate_left
                · intro w' hSw; obtain ⟨s0, sB⟩ := hSw; obtain ⟨t0, t1, t2, _⟩ := blk3 sB; go_simp <;> with_reducible rfl
                simp only [Act.put, List.setIfInBounds_toArray, List.set_cons_zero, List.set_cons_succ]
                refine wpAnyH_yes (i := 2) (d := 85) (v := ?_) rfl rfl (by kernel_rfl) (by kernel_rfl) (by kernel_rfl) (fun _ _ _ h => h) (by rfl) ?_ hS0 ?_
                rotate_left
                · intro w' hSw; obtain ⟨s0, sB⟩ := hSw; obtain ⟨t0, t1, t2, _⟩ := blk3 sB; go_simp <;> with_reducible rfl
                simp only [Act.put, List.setIfInBounds_toArray, List.set_cons_zero, List.set_cons_succ]
                refine wpAnyH_yes (i := 3) (d := 86) (v := ?_) rfl rfl (by kernel_rfl) (by kernel_rfl) (by kernel_rfl) (fun _ _ _ h => h) (by rfl) ?_ hS0 ?_
                rotate_left
                · intro w' hSw; obtain ⟨s0, sB⟩ := hSw; obtain ⟨t0, t1, t2, _⟩ := blk3 sB; go_simp <;> with_reducible rfl
                simp only [Act.put, List.setIfInBounds_toArray, List.set_cons_zero, List.set_cons_succ]
                refine wpAnyH_yes (i := 4) (d := 87) (v := ?_) rfl rfl (by kernel_rfl) (by kernel_rfl) (by kernel_rfl) (fun _ _ _ h => h) (by rfl) ?_ hS0 ?_
                rotate_left
                · intro w' hSw; obtain ⟨s0, sB⟩ := hSw; obtain ⟨t0, t1, t2, _⟩ := blk3 sB; go_simp <;> with_reducible rfl
                simp only [Act.put, List.setIfInBounds_toArray, List.set_cons_zero, List.set_cons_succ]
                refine wpAnyH_yes (i := 5) (d := 88) (v := ?_) rfl rfl (by kernel_rfl) (by kernel_rfl) (by kernel_rfl) (fun _ _ _ h => h) (by rfl) ?_ hS0 ?_
                rotate_left
                · intro w' hSw; obtain ⟨s0, sB⟩ := hSw; obtain ⟨t0, t1, t2, _⟩ := blk3 sB; go_simp <;> with_reducible rfl
                simp only [Act.put, List.setIfInBounds_toArray, List.set_cons_zero, List.set_cons_succ]
                refine wpAnyH_yes (i := 6) (d := 89) (v := ?_) rfl rfl (by kernel_rfl) (by kernel_rfl) (by kernel_rfl) (fun _ _ _ h => h) (by rfl) ?_ hS0 ?_
                rotate_left
                · intro w' hSw; obtain ⟨s0, sB⟩ := hSw; obtain ⟨t0, t1, t2, _⟩ := blk3 sB; go_simp <;> with_reducible rfl
                simp only [Act.put, List.setIfInBounds_toArray, List.set_cons_zero, List.set_cons_succ]
                refine wpAnyH_yes (i := 7) (d := 90) (v := ?_) rfl rfl (by kernel_rfl) (by kernel_rfl) (by kernel_rfl) (fun _ _ _ h => h) (by rfl) ?_ hS0 ?_
                rotate_left
                · intro w' hSw; obtain ⟨s0, sB⟩ := hSw; obtain ⟨t0, t1, t2, _⟩ := blk3 sB; go_simp <;> with_reducible rfl
                simp only [Act.put, List.setIfInBounds_toArray, List.set_cons_zero, List.set_cons_succ]
                have hB3 := HBW.out.drew
                have hO3 : OwnA W.drew w.heap.size (.slice A6 0 c6) (Fil.evOf (L.take 0) S) := OwnA.below HOW.out (Below.refl _ _).drew
                clear HBW HOW hnm hVb
                generalize W.drew = w4 at *
                refine wpAnyH_one (i := 8) (by kernel_rfl) rfl (by rfl) (fun Ka hKa => ?_)
                go_simp
                have hbb : Below w4.heap.size w4 (w4.alloc (.cells #[.string ⟨xn.toArray⟩, .int .i64 rK, .int .i64 rlo, .string ⟨rf.toArray⟩] 53)) := (Below.refl _ _).alloc (Nat.le_refl _) _
                have hR4 : RdA (w4.alloc (.cells #[.string ⟨xn.toArray⟩, .int .i64 rK, .int .i64 rlo, .string ⟨rf.toArray⟩] 53)) (some ⟨w4.heap.size, 0, none⟩) [⟨xn, rK, rlo, rf⟩] := rda_one w4 ⟨xn, rK, rlo, rf⟩ 53
                have hO4 := OwnA.below hO3 hbb
                have hB4 := below_next hB3 (Nat.le_refl _) hbb
                have hS1 : (w4.alloc (.cells #[.string ⟨xn.toArray⟩, .int .i64 rK, .int .i64 rlo, .string ⟨rf.toArray⟩] 53)).cell? ⟨g, off + i * 5, none⟩ = some (.string ⟨xn.toArray⟩) ∧ Blk (w4.alloc (.cells #[.string ⟨xn.toArray⟩, .int .i64 rK, .int .i64 rlo, .string ⟨rf.toArray⟩] 53)) Pv 33 #[.int .i64 rK, .int .i64 rlo, .string ⟨rf.toArray⟩] := ⟨(hbb.cell (p := ⟨g, off + i * 5, none⟩) (by show g < _; have := hB3.size; omega)).trans hS0.1, Blk.below hS0.2 hbb hS0.2.lt⟩
                refine hKa.out _ _ hS1 ?_
                clear hKa Ka hO3 hB3 hbb hS0
                generalize w4.alloc (.cells #[.string ⟨xn.toArray⟩, .int .i64 rK, .int .i64 rlo, .string ⟨rf.toArray⟩] 53) = w5 at *
                refine wpAnyH_one (i := 9) (by kernel_rfl) rfl (by rfl) (fun Ka hKa => ?_)
                have hlj : (Fil.evOf (L.take 0) S).length = 0 := by unfold Fil.evOf; rw [List.length_map, List.length_take]; omega
                refine op_append_a2 (.tmp 83) (.tmp 91) rfl w.heap.size (.slice A6 0 c6) (Fil.evOf (L.take 0) S) (by rfl) hO4 (some ⟨w4.heap.size, 0, none⟩) [⟨xn, rK, rlo, rf⟩] 1 1 (by rfl) hR4 rfl (by rw [hlj]; omega) hB4.size ?_
                intro v6 w6 hO6 hb6' hg6
                have hB6 := hb6' w hB4
                have hS2 : w6.cell? ⟨g, off + i * 5, none⟩ = some (.string ⟨xn.toArray⟩) ∧ Blk w6 Pv 33 #[.int .i64 rK, .int .i64 rlo, .string ⟨rf.toArray⟩] := ⟨(hB6.cell (p := ⟨g, off + i * 5, none⟩) hgw).trans hnw, (hg6.block _ hS1.2.lt (fun e => Nat.lt_irrefl _ (HLT.out _ e.symm))).trans hS1.2⟩
                have hE6 : Fil.evOf (L.take (0 + 1)) S = Fil.evOf (L.take 0) S ++ [⟨xn, rK, rlo, rf⟩] := by
                  unfold Fil.evOf
                  rw [List.take_succ_eq_append_getElem hjL, List.map_append, HJ.out]
                  simp only [List.map_cons, List.map_nil]
                  rw [HAT.out]
                rw [← hE6] at hO6
                have hl6 : (Fil.evOf (L.take (0 + 1)) S).length = 0 + 1 := by rw [hE6, List.length_append, hlj]; rfl
                obtain ⟨A9, c9, hv9, hc9, hr9⟩ := OwnA.rd hO6
                rw [hl6] at hv9 hc9
                subst hv9
                have HO6 := Lib.hid hO6
                have HB6 := Lib.hid hB6
                have HC9 := Lib.hid hc9
                refine hKa.out _ _ hS2 ?_
                clear hKa Ka hO4 hB4 hR4 hS1 hb6' hg6 hO6 hB6 hE6 hl6 hr9 hlj hc9
                simp only [Act.put, List.setIfInBounds_toArray, List.set_cons_zero, List.set_cons_succ]
                refine wpAnyH_yes (i := 10) (d := 7) (v := ?_) rfl rfl (by kernel_rfl) (by kernel_rfl) (by kernel_rfl) (fun _ _ _ h => h) (by rfl) ?_ hS2 ?_
                rotate_left
                · intro w' hSw; obtain ⟨s0, sB⟩ := hSw; go_simp <;> with_reducible rfl
                simp only [Act.put, List.setIfInBounds_toArray, List.set_cons_zero, List.set_cons_succ]
                refine wpAnyH_done (by kernel_rfl) ?_ _
                clear hS2
                go_wp2_with fail
                go_roundg (k - (i + 1))
                case measure => omega
                case rel => exact ⟨i + 1, 0 + 1, A9, c9, by omega, Nat.le_refl _, by go_num, rfl, HU2, HO6, HB6⟩
        · obtain ⟨q, rfl⟩ : ∃ q, j = q + 1 := ⟨j - 1, by omega⟩
          have hq : q < L.length := by omega
          obtain ⟨_, _, e1, _, hrd⟩ := OwnA.rd HO.out
          injection e1 with e1 e2 e3
          subst e1
          have hql : q < (Fil.evOf (L.take (q + 1)) S).length := by unfold Fil.evOf; rw [List.length_map, List.length_take]; omega
          obtain ⟨g6, off6, rfl, hg6, hC6⟩ := hrd.at_ hql
          obtain ⟨pn, hpn⟩ : ∃ pn, ((Fil.evOf (L.take (q + 1)) S)[q]).n = pn := ⟨_, rfl⟩
          have hpx : pn ≠ xn := fun e => hsame ⟨by omega, by rw [← e, ← hpn, evOf_n hql hq]; rfl⟩
          have f0 := hC6.1
          rw [hpn] at f0
          have y0 := fun n os => cell_gr (w := wr) (p := ⟨g6, off6 + q * 4, none⟩) hg6 f0 n os
          have hwq : IntKind.i64.wrap (q : Int) = (q : Int) := by rw [IntKind.wrap_i64]; omega
          have hqq : (q : Int) < (q : Int) + 1 := by omega
          have hq1 : (0 : Int) ≤ (q : Int) := by omega
          have hq2 : q < q + 1 := by omega
          have hq0 : (0 : Int) < ((q + 1 : Nat) : Int) := by omega
          have hd : (pn == xn) = false := by simpa using hpx
          clear hsame hpn hC6 f0 hql hrd e2 e3 hpx
          go_wp2_with fail
          (refine hq_region mixedT (by kernel_rfl) ?_; (repeat (refine hq_step (fun K hK => ?_); go_simp; first | (refine hK _ ?_; clear hK K) | (apply Exists.intro; refine ⟨fun _ => ?_, hK _ ?_⟩; (fail); clear hK K))); refine hq_nil ?_; intro _ hw'; obtain ⟨⟨nq, osq⟩, hw''⟩ := hw'; subst hw'')
          clear y0 hwq hqq hq1 hq2 hq0 hd hg6
          have HB2 := Lib.hid (below_next HB.out (Nat.le_refl _) ((Grown.refl wr).more nq osq).below)
          have HO2 := Lib.hid (OwnA.below HO.out ((Grown.refl wr).more nq osq).below)
          have hs2 : wr.heap.size ≤ (grow (wr.drewN nq) osq).heap.size := ((Grown.refl wr).more nq osq).below.size
          generalize grow (wr.drewN nq) osq = w2 at *
          have HLT2 : Hid (∀ q, (Value.slice (some ⟨g6, off6, none⟩) (q + 1) c6).ownBlock = some q → q < w2.heap.size) := fun q hq => Nat.lt_of_lt_of_le (hOlt.out q hq) hs2
          clear z0 hs2 HO HB hnr hgr
          have hst : Hid (Fil.of ((g0.take i).drop i) xn = []) := by show _ = _; rw [List.drop_eq_nil_of_le (by rw [List.length_take]; omega)]; rfl
          go_wp2_with fail
          go_loopg [9, 10] n (fun g2 s9 s10 wy => ∃ (k : Nat) (A9 : Option Addr) (m9 c9 : Nat), i ≤ k ∧ k ≤ n ∧ n - k ≤ g2 ∧ s10 = .int .i64 (k : Int) ∧ s9 = .slice A9 m9 c9 ∧ m9 ≤ k ∧ Hid ((Fil.of ((g0.take k).drop i) xn).length = m9) ∧ Hid (OwnQ wy w2.heap.size (.slice A9 m9 c9) (Fil.of ((g0.take k).drop i) xn)) ∧ Hid (Below w2.heap.size w2 wy))
          case atStart => exact ⟨i, none, 0, 0, Nat.le_refl _, by omega, by omega, rfl, rfl, by omega, by rw [hst.out]; rfl, by rw [hst.out]; exact OwnK.none_ _ _, Below.refl _ _⟩
          case round =>
            obtain ⟨k, A9, m9, c9, hik, hk, hg2, rfl, rfl, hmk, HM9, HO9, HB9⟩ := hrel
            clear hst
            have HBy := Lib.hid (below_next HB2.out (Nat.le_refl _) HB9.out)
            by_cases hkn : k < n
            · have hk' : k < g0.length := by rw [HN.out]; exact hkn
              obtain ⟨g', off', e1, hg', d0, d1, d2, d3, d4⟩ := RdQ.at5 (RdK.below HR.out HBy.out) hk'
              injection e1 with e1
              injection e1 with e1 e2
              subst e1
              subst e2
              obtain ⟨y, hy⟩ : ∃ y, g0[k] = y := ⟨_, rfl⟩
              have HY := Lib.hid hy
              rw [hy] at d0 d1 d2 d3 d4
              clear hy
              obtain ⟨yn, yo, yk, yi, yt⟩ := y
              dsimp only at d0 d1 d2 d3 d4
              have hx0 : wr.cell? ⟨g, off + i * 5, none⟩ = some (.string ⟨xn.toArray⟩) := (HBy.out.cell (p := ⟨g, off + i * 5, none⟩) hgw).trans hnw
              have y0 := fun n os => cell_gr (w := wr) (p := ⟨g, off + k * 5, none⟩) hg' d0 n os
              have y1 := fun n os => cell_gr (w := wr) (p := ⟨g, off + k * 5 + 1, none⟩) hg' d1 n os
              have y2 := fun n os => cell_gr (w := wr) (p := ⟨g, off + k * 5 + 2, none⟩) hg' d2 n os
              have y3 := fun n os => cell_gr (w := wr) (p := ⟨g, off + k * 5 + 3, none⟩) hg' d3 n os
              have y4 := fun n os => cell_gr (w := wr) (p := ⟨g, off + k * 5 + 4, none⟩) hg' d4 n os
              have z0 := fun n os => cell_gr (w := wr) (p := ⟨g, off + i * 5, none⟩) hg' hx0 n os
              have hw6 : (k : Int) < (n : Int) := by omega
              have hsn : Hid (Fil.of ((g0.take (k + 1)).drop i) xn = if yn = xn then Fil.of ((g0.take k).drop i) xn ++ [⟨yn, yo, yk, yi, yt⟩] else Fil.of ((g0.take k).drop i) xn) := by
                show _ = _
                rw [take_drop_snoc hik hk', HY.out]
                exact of_snoc _ _ _
              clear d0 d1 d2 d3 d4 hx0
              by_cases hyx : yn = xn
              · have hd : (yn == xn) = true := by simpa using hyx
                have HYX := Lib.hid hyx
                clear hyx
                go_wp2_with fail
                (refine hq_region mixedT (by kernel_rfl) ?_; (repeat (refine hq_step (fun K hK => ?_); go_simp; first | (refine hK _ ?_; clear hK K) | (apply Exists.intro; refine ⟨fun _ => ?_, hK _ ?_⟩; (fail); clear hK K))); refine hq_nil ?_; intro _ hw'; obtain ⟨⟨nq, osq⟩, hw''⟩ := hw'; subst hw'')
                have c0 := y0 nq osq
                have c1 := y1 nq osq
                have c2 := y2 nq osq
                have c3 := y3 nq osq
                have c4 := y4 nq osq
                have hgb := ((Grown.refl wr).more nq osq).below
                have hO8 := OwnK.below HO9.out hgb
                have hB8 := below_next HB9.out (Nat.le_refl _) hgb
                have hg8 : g < (grow (wr.drewN nq) osq).heap.size := Nat.lt_of_lt_of_le hg' hgb.size
                clear y0 y1 y2 y3 y4 z0 hgb HO9 HB9 HBy hd
                generalize grow (wr.drewN nq) osq = w8 at *
                have hrx := rdk_one layP w8 ⟨yn, yo, yk, yi, yt⟩ 35 #[.string ⟨yn.toArray⟩, .int .i64 yo, .int .i64 yk, .int .i64 yi, .string ⟨yt.toArray⟩] rfl
                have hbb : Below w8.heap.size w8 (w8.alloc (.cells #[.string ⟨yn.toArray⟩, .int .i64 yo, .int .i64 yk, .int .i64 yi, .string ⟨yt.toArray⟩] 35)) := (Below.refl _ _).alloc (Nat.le_refl _) _
                have hO10 := OwnK.below hO8 hbb
                have hB10 := below_next hB8 (Nat.le_refl _) hbb
                obtain ⟨lk, hlk⟩ : ∃ l, Fil.of ((g0.take k).drop i) xn = l := ⟨_, rfl⟩
                have HLK := Lib.hid hlk
                rw [hlk] at hO10 HM9
                clear hlk hO8 hbb
                have hs10 : w2.heap.size ≤ (w8.alloc (.cells #[.string ⟨yn.toArray⟩, .int .i64 yo, .int .i64 yk, .int .i64 yi, .string ⟨yt.toArray⟩] 35)).heap.size := hB10.size
                go_wp2_with (at_builtin; refine wpList_append_k layP (by rfl) (.tmp 55) (.tmp 60) 22 underQ rfl w2.heap.size _ lk (by rfl) hO10 _ [⟨yn, yo, yk, yi, yt⟩] 1 1 (by rfl) hrx rfl (by rw [maxLen_num, HM9.out]; omega) (by show (lk.length + 1) * 56 ≤ _; rw [HM9.out]; omega) hs10 ?_; intro v6 w6 ho6 hB6' hg6' hl6'; have hlen : (lk ++ [(⟨yn, yo, yk, yi, yt⟩ : Pr)]).length = m9 + 1 := (by rw [List.length_append, HM9.out]; rfl); obtain ⟨A11, c11, hv11, hc11, hr11⟩ := OwnK.form ho6 hlen; subst hv11)
                have HB6 := Lib.hid (hB6' w2 hB10)
                have HO6 : Hid (OwnQ w6 w2.heap.size (.slice A11 (m9 + 1) c11) (Fil.of ((g0.take (k + 1)).drop i) xn)) := by
                  show OwnK _ _ _ _ _
                  rw [hsn.out, if_pos HYX.out, HLK.out]
                  exact ho6
                have HM6 : Hid ((Fil.of ((g0.take (k + 1)).drop i) xn).length = m9 + 1) := by
                  show _ = _
                  rw [hsn.out, if_pos HYX.out, HLK.out]
                  exact hlen
                clear hB6' hg6' hl6' ho6 hlen hr11 hrx hO10 hB10 hs10 c0 c1 c2 c3 c4 hsn
                go_wp2_with fail
                go_roundg (n - (k + 1))
                case measure => omega
                case rel => exact ⟨k + 1, A11, m9 + 1, c11, by omega, by omega, Nat.le_refl _, by go_num, rfl, by omega, HM6, HO6, HB6⟩
              · have hd : (yn == xn) = false := by simpa using hyx
                have HYX := Lib.hid hyx
                clear hyx
                go_wp2_with fail
                (refine hq_region mixedT (by kernel_rfl) ?_; (repeat (refine hq_step (fun K hK => ?_); go_simp; first | (refine hK _ ?_; clear hK K) | (apply Exists.intro; refine ⟨fun _ => ?_, hK _ ?_⟩; (fail); clear hK K))); refine hq_nil ?_; intro _ hw'; obtain ⟨⟨nq, osq⟩, hw''⟩ := hw'; subst hw'')
                have hgb := ((Grown.refl wr).more nq osq).below
                have HB6 := Lib.hid (below_next HB9.out (Nat.le_refl _) hgb)
                have HO6 : Hid (OwnQ (grow (wr.drewN nq) osq) w2.heap.size (.slice A9 m9 c9) (Fil.of ((g0.take (k + 1)).drop i) xn)) := by
                  show OwnK _ _ _ _ _
                  rw [hsn.out, if_neg HYX.out]
                  exact OwnK.below HO9.out hgb
                have HM6 : Hid ((Fil.of ((g0.take (k + 1)).drop i) xn).length = m9) := by
                  show _ = _
                  rw [hsn.out, if_neg HYX.out]
                  exact HM9.out
                clear y0 y1 y2 y3 y4 z0 hgb HO9 HB9 HBy hd hsn
                generalize grow (wr.drewN nq) osq = w8 at *
                go_wp2_with fail
                go_roundg (n - (k + 1))
                case measure => omega
                case rel => exact ⟨k + 1, A9, m9, c9, by omega, by omega, Nat.le_refl _, by go_num, rfl, by omega, HM6, HO6, HB6⟩
            · obtain rfl : k = n := by omega
              have hall : Fil.of ((g0.take k).drop i) xn = predsOf xn (S xn) := by
                rw [List.take_of_length_le (by rw [HN.out]; exact Nat.le_refl _), Fil.of_rest HNA.out]
                exact HG.out.of_ ((HG.out.asked _).1 (by have := List.getElem_mem hi'; exact ⟨_, this, by rw [HX.out]⟩))
              have hal := hall ▸ HM9.out
              have hO9 := hall ▸ HO9.out
              obtain ⟨_, _, e1, _, hrd⟩ := OwnK.rd hO9
              injection e1 with e1 e2 e3
              subst e1
              have hax : Fil.Asked f xn := (HG.out.asked _).1 ⟨_, List.getElem_mem hi', by rw [HX.out]⟩
              have hfin := HG.out.fine hax
              have hPB : ∀ p ∈ predsOf xn (S xn), p.n.length ≤ 100 ∧ p.t.length ≤ 100 ∧ -9223372036854775808 ≤ p.i ∧ p.i ≤ 9223372036854775807 := pbd_right (fun p hp => (hfin p hp).1)
              have HPB := Lib.hid hPB
              have HAL := Lib.hid hal
              have HRD := Lib.hid hrd
              have HCN : Hid (IsAll (predsOf xn (S xn)) (S xn)) := preds_all (HG.out.spans xn hax).1 (HG.out.pos hax) (Fil.name_len HG.out.sound.2 hax).1 (Fil.name_len HG.out.sound.2 hax).2
              clear hall hal hO9 hrd e2 e3 hax hfin hPB HO9 HM9
              go_wp2_with fail
              refine (fold_at A9 (predsOf xn (S xn)) m9 c9 HAL.out (by omega) HPB.out wr HRD.out).mono ?_
              rintro e w3 ⟨⟨rK, rlo, rhi, rf, rt, ro, rno⟩, hia, hrl, A7, n7, c7, rfl, hl7, hc7, ho7, hb7⟩
              have HSX : Hid (S xn = ⟨rK, rlo, rhi, rf, rt, ro, rno⟩) := HCN.out.one hia
              have hB3 := below_next HBy.out (Nat.le_refl _) hb7
              have hO3 := OwnA.below (OwnA.below HO2.out HB9.out) hb7
              have HB3 := Lib.hid hB3
              have HO3 := Lib.hid hO3
              have hs3 : w2.heap.size ≤ w3.heap.size := Nat.le_trans HB9.out.size hb7.size
              have HLT : Hid (∀ q, (Value.slice (some ⟨g6, off6, none⟩) (q + 1) c6).ownBlock = some q → q < w3.heap.size + 1) := fun q hq => by have := HLT2.out q hq; omega
              have hV1 := Blk.new w3 64 #[.int .i64 rK, .int .i64 rlo, .int .i64 rhi, .string ⟨rf.toArray⟩, .string ⟨rt.toArray⟩, .bool ro, .slice A7 n7 c7]
              have hbA : Below w3.heap.size w3 (w3.alloc (.cells #[.int .i64 rK, .int .i64 rlo, .int .i64 rhi, .string ⟨rf.toArray⟩, .string ⟨rt.toArray⟩, .bool ro, .slice A7 n7 c7] 64)) := (Below.refl _ _).alloc (Nat.le_refl _) _
              have hsA : (w3.alloc (.cells #[.int .i64 rK, .int .i64 rlo, .int .i64 rhi, .string ⟨rf.toArray⟩, .string ⟨rt.toArray⟩, .bool ro, .slice A7 n7 c7] 64)).heap.size = w3.heap.size + 1 := by simp
              have hVb : Blk ((w3.alloc (.cells #[.int .i64 rK, .int .i64 rlo, .int .i64 rhi, .string ⟨rf.toArray⟩, .string ⟨rt.toArray⟩, .bool ro, .slice A7 n7 c7] 64)).alloc (.cells #[.int .i64 rK, .int .i64 rlo, .string ⟨rf.toArray⟩] 33)) (w3.heap.size + 1) 33 #[.int .i64 rK, .int .i64 rlo, .string ⟨rf.toArray⟩] := by
                have := Blk.new (w3.alloc (.cells #[.int .i64 rK, .int .i64 rlo, .int .i64 rhi, .string ⟨rf.toArray⟩, .string ⟨rt.toArray⟩, .bool ro, .slice A7 n7 c7] 64)) 33 #[.int .i64 rK, .int .i64 rlo, .string ⟨rf.toArray⟩]
                rwa [hsA] at this
              have hbB : Below w3.heap.size w3 ((w3.alloc (.cells #[.int .i64 rK, .int .i64 rlo, .int .i64 rhi, .string ⟨rf.toArray⟩, .string ⟨rt.toArray⟩, .bool ro, .slice A7 n7 c7] 64)).alloc (.cells #[.int .i64 rK, .int .i64 rlo, .string ⟨rf.toArray⟩] 33)) := hbA.alloc (by simp) _
              have HBW := Lib.hid (below_next hB3 (Nat.le_refl _) hbB)
              have HOW := Lib.hid (OwnA.below hO3 hbB)
              have hV1' := Blk.below hV1 (Below.refl _ _ |>.alloc (Nat.le_refl _) (.cells #[.int .i64 rK, .int .i64 rlo, .string ⟨rf.toArray⟩] 33)) hV1.lt
              have hnm : ((w3.alloc (.cells #[.int .i64 rK, .int .i64 rlo, .int .i64 rhi, .string ⟨rf.toArray⟩, .string ⟨rt.toArray⟩, .bool ro, .slice A7 n7 c7] 64)).alloc (.cells #[.int .i64 rK, .int .i64 rlo, .string ⟨rf.toArray⟩] 33)).cell? ⟨g, off + i * 5, none⟩ = some (.string ⟨xn.toArray⟩) := (HBW.out.cell (p := ⟨g, off + i * 5, none⟩) hgw).trans hnw
              clear hia hrl hl7 hc7 ho7 hb7 hB3 hO3 hs3 hbA hbB hsA HO2 HB2 HB9 HBy HLT2 HCN HPB HAL HRD hOlt
              by_cases h4 : rK = 4
              · have HC4 : Hid (rlo = 0 ∧ rf = []) := by
                  have hc : Canon ⟨rK, rlo, rhi, rf, rt, ro, rno⟩ := by rw [← HSX.out]; exact (HG.out.spans xn ((HG.out.asked _).1 ⟨_, List.getElem_mem hi', by rw [HX.out]⟩)).1
                  have := kind_any hc h4
                  injection this with a1 a2 a3 a4
                  exact ⟨a2, a4⟩
                have HAT : Hid (Fil.atOf S xn = ⟨xn, 1, 0, []⟩) := by
                  show _ = _
                  unfold Fil.atOf
                  rw [HSX.out]
                  unfold Fil.firstV
                  simp [h4]
                obtain ⟨h50, h51⟩ := HC4.out
                subst h4
                subst h50
                subst h51
                clear HC4
                have hsA : (w3.alloc (.cells #[.int .i64 4, .int .i64 0, .int .i64 rhi, .string ⟨#[]⟩, .string ⟨rt.toArray⟩, .bool ro, .slice A7 n7 c7] 64)).heap.size = w3.heap.size + 1 := by simp
                have hWa := hVb.lt
                obtain ⟨v0, v1, v2, u0, u1, u2⟩ := blk3 hVb
                obtain ⟨x0, x1, _, x3, _⟩ := blk7 hV1'
                have hVc : Blk ((w3.alloc (.cells #[.int .i64 4, .int .i64 0, .int .i64 rhi, .string ⟨#[]⟩, .string ⟨rt.toArray⟩, .bool ro, .slice A7 n7 c7] 64)).alloc (.cells #[.int .i64 1, .int .i64 0, .string ⟨#[]⟩] 33)) (w3.heap.size + 1) 33 #[.int .i64 1, .int .i64 0, .string ⟨#[]⟩] := by
                  have := Blk.new (w3.alloc (.cells #[.int .i64 4, .int .i64 0, .int .i64 rhi, .string ⟨#[]⟩, .string ⟨rt.toArray⟩, .bool ro, .slice A7 n7 c7] 64)) 33 #[.int .i64 1, .int .i64 0, .string ⟨#[]⟩]
                  rwa [hsA] at this
                have hbC : Below w3.heap.size w3 ((w3.alloc (.cells #[.int .i64 4, .int .i64 0, .int .i64 rhi, .string ⟨#[]⟩, .string ⟨rt.toArray⟩, .bool ro, .slice A7 n7 c7] 64)).alloc (.cells #[.int .i64 1, .int .i64 0, .string ⟨#[]⟩] 33)) := ((Below.refl _ _).alloc (Nat.le_refl _) _).alloc (by simp) _
                have HBX := Lib.hid (below_next HB3.out (Nat.le_refl _) hbC)
                have HOX := Lib.hid (OwnA.below HO3.out hbC)
                have hny := (HBX.out.cell (p := ⟨g, off + i * 5, none⟩) hgw).trans hnw
                clear hbC hsA
                go_wp2_with fail
                clear v0 v1 v2 u0 u1 u2 x0 x1 x3 hV1 hV1' hVb HBW HOW hnm hWa
                have hnm := hny
                have HBW := HBX
                have HOW := HOX
                have hVb := hVc
                clear hny HBX HOX hVc
                generalize hW : (w3.alloc (.cells #[.int .i64 4, .int .i64 0, .int .i64 rhi, .string ⟨#[]⟩, .string ⟨rt.toArray⟩, .bool ro, .slice A7 n7 c7] 64)).alloc (.cells #[.int .i64 1, .int .i64 0, .string ⟨#[]⟩] 33) = W at *
                clear hW
                generalize w3.heap.size + 1 = Pv at *
                have hS0 : W.drew.cell? ⟨g, off + i * 5, none⟩ = some (.string ⟨xn.toArray⟩) ∧ Blk W.drew Pv 33 #[.int .i64 1, .int .i64 0, .string ⟨#[]⟩] := ⟨hnm, hVb⟩
                refine wp_region_held_drew (S := fun w' => w'.cell? ⟨g, off + i * 5, none⟩ = some (.string ⟨xn.toArray⟩) ∧ Blk w' Pv 33 #[.int .i64 1, .int .i64 0, .string ⟨#[]⟩]) (by kernel_rfl) hS0 (fun _ => ?_)
                refine wpAnyH_yes (i := 0) (d := 83) (v := ?_) rfl rfl (by kernel_rfl) (by kernel_rfl) (by kernel_rfl) (fun _ _ _ h => h) (by rfl) ?_ hS0 ?_
                rotate_left
                · intro w' hSw; obtain ⟨s0, sB⟩ := hSw; obtain ⟨t0, t1, t2, _⟩ := blk3 sB; go_simp <;> with_reducible rfl
                simp only [Act.put, List.setIfInBounds_toArray, List.set_cons_zero, List.set_cons_succ]
                refine wpAnyH_yes (i := 1) (d := 84) (v := ?_) rfl rfl (by kernel_rfl) (by kernel_rfl) (by kernel_rfl) (fun _ _ _ h => h) (by rfl) ?_ hS0 ?_
                rotate_left
                · intro w' hSw; obtain ⟨s0, sB⟩ := hSw; obtain ⟨t0, t1, t2, _⟩ := blk3 sB; go_simp <;> with_reducible rfl
                simp only [Act.put, List.setIfInBounds_toArray, List.set_cons_zero, List.set_cons_succ]
                refine wpAnyH_yes (i := 2) (d := 85) (v := ?_) rfl rfl (by kernel_rfl) (by kernel_rfl) (by kernel_rfl) (fun _ _ _ h => h) (by rfl) ?_ hS0 ?_
                rotate_left
                · intro w' hSw; obtain ⟨s0, sB⟩ := hSw; obtain ⟨t0, t1, t2, _⟩ := blk3 sB; go_simp <;> with_reducible rfl
                simp only [Act.put, List.setIfInBounds_toArray, List.set_cons_zero, List.set_cons_succ]
                refine wpAnyH_yes (i := 3) (d := 86) (v := ?_) rfl rfl (by kernel_rfl) (by kernel_rfl) (by kernel_rfl) (fun _ _ _ h => h) (by rfl) ?_ hS0 ?_
                rotate_left
                · intro w' hSw; obtain ⟨s0, sB⟩ := hSw; obtain ⟨t0, t1, t2, _⟩ := blk3 sB; go_simp <;> with_reducible rfl
                simp only [Act.put, List.setIfInBounds_toArray, List.set_cons_zero, List.set_cons_succ]
                refine wpAnyH_yes (i := 4) (d := 87) (v := ?_) rfl rfl (by kernel_rfl) (by kernel_rfl) (by kernel_rfl) (fun _ _ _ h => h) (by rfl) ?_ hS0 ?_
                rotate_left
                · intro w' hSw; obtain ⟨s0, sB⟩ := hSw; obtain ⟨t0, t1, t2, _⟩ := blk3 sB; go_simp <;> with_reducible rfl
                simp only [Act.put, List.setIfInBounds_toArray, List.set_cons_zero, List.set_cons_succ]
                refine wpAnyH_yes (i := 5) (d := 88) (v := ?_) rfl rfl (by kernel_rfl) (by kernel_rfl) (by kernel_rfl) (fun _ _ _ h => h) (by rfl) ?_ hS0 ?_
                rotate_left
                · intro w' hSw; obtain ⟨s0, sB⟩ := hSw; obtain ⟨t0, t1, t2, _⟩ := blk3 sB; go_simp <;> with_reducible rfl
                simp only [Act.put, List.setIfInBounds_toArray, List.set_cons_zero, List.set_cons_succ]
                refine wpAnyH_yes (i := 6) (d := 89) (v := ?_) rfl rfl (by kernel_rfl) (by kernel_rfl) (by kernel_rfl) (fun _ _ _ h => h) (by rfl) ?_ hS0 ?_
                rotate_left
                · intro w' hSw; obtain ⟨s0, sB⟩ := hSw; obtain ⟨t0, t1, t2, _⟩ := blk3 sB; go_simp <;> with_reducible rfl
                simp only [Act.put, List.setIfInBounds_toArray, List.set_cons_zero, List.set_cons_succ]
                refine wpAnyH_yes (i := 7) (d := 90) (v := ?_) rfl rfl (by kernel_rfl) (by kernel_rfl) (by kernel_rfl) (fun _ _ _ h => h) (by rfl) ?_ hS0 ?_
                rotate_left
                · intro w' hSw; obtain ⟨s0, sB⟩ := hSw; obtain ⟨t0, t1, t2, _⟩ := blk3 sB; go_simp <;> with_reducible rfl
                simp only [Act.put, List.setIfInBounds_toArray, List.set_cons_zero, List.set_cons_succ]
                have hB3 := HBW.out.drew
                have hO3 : OwnA W.drew w.heap.size (.slice (some ⟨g6, off6, none⟩) (q + 1) c6) (Fil.evOf (L.take (q + 1)) S) := OwnA.below HOW.out (Below.refl _ _).drew
                clear HBW HOW hnm hVb
                generalize W.drew = w4 at *
                refine wpAnyH_one (i := 8) (by kernel_rfl) rfl (by rfl) (fun Ka hKa => ?_)
                go_simp
                have hbb : Below w4.heap.size w4 (w4.alloc (.cells #[.string ⟨xn.toArray⟩, .int .i64 1, .int .i64 0, .string ⟨#[]⟩] 53)) := (Below.refl _ _).alloc (Nat.le_refl _) _
                have hR4 : RdA (w4.alloc (.cells #[.string ⟨xn.toArray⟩, .int .i64 1, .int .i64 0, .string ⟨#[]⟩] 53)) (some ⟨w4.heap.size, 0, none⟩) [⟨xn, 1, 0, []⟩] := rda_one w4 ⟨xn, 1, 0, []⟩ 53
                have hO4 := OwnA.below hO3 hbb
                have hB4 := below_next hB3 (Nat.le_refl _) hbb
                have hS1 : (w4.alloc (.cells #[.string ⟨xn.toArray⟩, .int .i64 1, .int .i64 0, .string ⟨#[]⟩] 53)).cell? ⟨g, off + i * 5, none⟩ = some (.string ⟨xn.toArray⟩) ∧ Blk (w4.alloc (.cells #[.string ⟨xn.toArray⟩, .int .i64 1, .int .i64 0, .string ⟨#[]⟩] 53)) Pv 33 #[.int .i64 1, .int .i64 0, .string ⟨#[]⟩] := ⟨(hbb.cell (p := ⟨g, off + i * 5, none⟩) (by show g < _; have := hB3.size; omega)).trans hS0.1, Blk.below hS0.2 hbb hS0.2.lt⟩
                refine hKa.out _ _ hS1 ?_
                clear hKa Ka hO3 hB3 hbb hS0
                generalize w4.alloc (.cells #[.string ⟨xn.toArray⟩, .int .i64 1, .int .i64 0, .string ⟨#[]⟩] 53) = w5 at *
                refine wpAnyH_one (i := 9) (by kernel_rfl) rfl (by rfl) (fun Ka hKa => ?_)
                have hlj : (Fil.evOf (L.take (q + 1)) S).length = (q + 1) := by unfold Fil.evOf; rw [List.length_map, List.length_take]; omega
                refine op_append_a2 (.tmp 83) (.tmp 91) rfl w.heap.size (.slice (some ⟨g6, off6, none⟩) (q + 1) c6) (Fil.evOf (L.take (q + 1)) S) (by rfl) hO4 (some ⟨w4.heap.size, 0, none⟩) [⟨xn, 1, 0, []⟩] 1 1 (by rfl) hR4 rfl (by rw [hlj]; omega) hB4.size ?_
                intro v6 w6 hO6 hb6' hg6
                have hB6 := hb6' w hB4
                have hS2 : w6.cell? ⟨g, off + i * 5, none⟩ = some (.string ⟨xn.toArray⟩) ∧ Blk w6 Pv 33 #[.int .i64 1, .int .i64 0, .string ⟨#[]⟩] := ⟨(hB6.cell (p := ⟨g, off + i * 5, none⟩) hgw).trans hnw, (hg6.block _ hS1.2.lt (fun e => Nat.lt_irrefl _ (HLT.out _ e.symm))).trans hS1.2⟩
                have hE6 : Fil.evOf (L.take ((q + 1) + 1)) S = Fil.evOf (L.take (q + 1)) S ++ [⟨xn, 1, 0, []⟩] := by
                  unfold Fil.evOf
                  rw [List.take_succ_eq_append_getElem hjL, List.map_append, HJ.out]
                  simp only [List.map_cons, List.map_nil]
                  rw [HAT.out]
                rw [← hE6] at hO6
                have hl6 : (Fil.evOf (L.take ((q + 1) + 1)) S).length = (q + 1) + 1 := by rw [hE6, List.length_append, hlj]; rfl
                obtain ⟨A9, c9, hv9, hc9, hr9⟩ := OwnA.rd hO6
                rw [hl6] at hv9 hc9
                subst hv9
                have HO6 := Lib.hid hO6
                have HB6 := Lib.hid hB6
                have HC9 := Lib.hid hc9
                refine hKa.out _ _ hS2 ?_
                clear hKa Ka hO4 hB4 hR4 hS1 hb6' hg6 hO6 hB6 hE6 hl6 hr9 hlj hc9
                simp only [Act.put, List.setIfInBounds_toArray, List.set_cons_zero, List.set_cons_succ]
                refine wpAnyH_yes (i := 10) (d := 7) (v := ?_) rfl rfl (by kernel_rfl) (by kernel_rfl) (by kernel_rfl) (fun _ _ _ h => h) (by rfl) ?_ hS2 ?_
                rotate_left
                · intro w' hSw; obtain ⟨s0, sB⟩ := hSw; go_simp <;> with_reducible rfl
                simp only [Act.put, List.setIfInBounds_toArray, List.set_cons_zero, List.set_cons_succ]
                refine wpAnyH_done (by kernel_rfl) ?_ _
                clear hS2
                go_wp2_with fail
                go_roundg (k - (i + 1))
                case measure => omega
                case rel => exact ⟨i + 1, (q + 1) + 1, A9, c9, by omega, Nat.le_refl _, by go_num, rfl, HU2, HO6, HB6⟩
              · have v4 : (rK == 4) = false := beq_eq_false_iff_ne.2 h4
                have HAT : Hid (Fil.atOf S xn = ⟨xn, rK, rlo, rf⟩) := by
                  show _ = _
                  unfold Fil.atOf
                  rw [HSX.out]
                  unfold Fil.firstV
                  simp [h4]
                clear h4
                obtain ⟨x0, x1, _, x3, _⟩ := blk7 hV1'
                go_wp2_with fail
                clear x0 x1 x3 hV1 hV1' v4
                generalize hW : (w3.alloc (.cells #[.int .i64 rK, .int .i64 rlo, .int .i64 rhi, .string ⟨rf.toArray⟩, .string ⟨rt.toArray⟩, .bool ro, .slice A7 n7 c7] 64)).alloc (.cells #[.int .i64 rK, .int .i64 rlo, .string ⟨rf.toArray⟩] 33) = W at *
                clear hW
                generalize w3.heap.size + 1 = Pv at *
                have hS0 : W.drew.cell? ⟨g, off + i * 5, none⟩ = some (.string ⟨xn.toArray⟩) ∧ Blk W.drew Pv 33 #[.int .i64 rK, .int .i64 rlo, .string ⟨rf.toArray⟩] := ⟨hnm, hVb⟩
                refine wp_region_held_drew (S := fun w' => w'.cell? ⟨g, off + i * 5, none⟩ = some (.string ⟨xn.toArray⟩) ∧ Blk w' Pv 33 #[.int .i64 rK, .int .i64 rlo, .string ⟨rf.toArray⟩]) (by kernel_rfl) hS0 (fun _ => ?_)
                refine wpAnyH_yes (i := 0) (d := 83) (v := ?_) rfl rfl (by kernel_rfl) (by kernel_rfl) (by kernel_rfl) (fun _ _ _ h => h) (by rfl) ?_ hS0 ?_
                rotate_left
                · intro w' hSw; obtain ⟨s0, sB⟩ := hSw; obtain ⟨t0, t1, t2, _⟩ := blk3 sB; go_simp <;> with_reducible rfl
                simp only [Act.put, List.setIfInBounds_toArray, List.set_cons_zero, List.set_cons_succ]
                refine wpAnyH_yes (i := 1) (d := 84) (v := ?_) rfl rfl (by kernel_rfl) (by kernel_rfl) (by kernel_rfl) (fun _ _ _ h => h) (by rfl) ?_ hS0 ?_
                rotate_left
                · intro w' hSw; obtain ⟨s0, sB⟩ := hSw; obtain ⟨t0, t1, t2, _⟩ := blk3 sB; go_simp <;> with_reducible rfl
                simp only [Act.put, List.setIfInBounds_toArray, List.set_cons_zero, List.set_cons_succ]
                refine wpAnyH_yes (i := 2) (d := 85) (v := ?_) rfl rfl (by kernel_rfl) (by kernel_rfl) (by kernel_rfl) (fun _ _ _ h => h) (by rfl) ?_ hS0 ?_
                rotate_left
                · intro w' hSw; obtain ⟨s0, sB⟩ := hSw; obtain ⟨t0, t1, t2, _⟩ := blk3 sB; go_simp <;> with_reducible rfl
                simp only [Act.put, List.setIfInBounds_toArray, List.set_cons_zero, List.set_cons_succ]
                refine wpAnyH_yes (i := 3) (d := 86) (v := ?_) rfl rfl (by kernel_rfl) (by kernel_rfl) (by kernel_rfl) (fun _ _ _ h => h) (by rfl) ?_ hS0 ?_
                rotate_left
                · intro w' hSw; obtain ⟨s0, sB⟩ := hSw; obtain ⟨t0, t1, t2, _⟩ := blk3 sB; go_simp <;> with_reducible rfl
                simp only [Act.put, List.setIfInBounds_toArray, List.set_cons_zero, List.set_cons_succ]
                refine wpAnyH_yes (i := 4) (d := 87) (v := ?_) rfl rfl (by kernel_rfl) (by kernel_rfl) (by kernel_rfl) (fun _ _ _ h => h) (by rfl) ?_ hS0 ?_
                rotate_left
                · intro w' hSw; obtain ⟨s0, sB⟩ := hSw; obtain ⟨t0, t1, t2, _⟩ := blk3 sB; go_simp <;> with_reducible rfl
                simp only [Act.put, List.setIfInBounds_toArray, List.set_cons_zero, List.set_cons_succ]
                refine wpAnyH_yes (i := 5) (d := 88) (v := ?_) rfl rfl (by kernel_rfl) (by kernel_rfl) (by kernel_rfl) (fun _ _ _ h => h) (by rfl) ?_ hS0 ?_
                rotate_left
                · intro w' hSw; obtain ⟨s0, sB⟩ := hSw; obtain ⟨t0, t1, t2, _⟩ := blk3 sB; go_simp <;> with_reducible rfl
                simp only [Act.put, List.setIfInBounds_toArray, List.set_cons_zero, List.set_cons_succ]
                refine wpAnyH_yes (i := 6) (d := 89) (v := ?_) rfl rfl (by kernel_rfl) (by kernel_rfl) (by kernel_rfl) (fun _ _ _ h => h) (by rfl) ?_ hS0 ?_
                rotate_left
                · intro w' hSw; obtain ⟨s0, sB⟩ := hSw; obtain ⟨t0, t1, t2, _⟩ := blk3 sB; go_simp <;> with_reducible rfl
                simp only [Act.put, List.setIfInBounds_toArray, List.set_cons_zero, List.set_cons_succ]
                refine wpAnyH_yes (i := 7) (d := 90) (v := ?_) rfl rfl (by kernel_rfl) (by kernel_rfl) (by kernel_rfl) (fun _ _ _ h => h) (by rfl) ?_ hS0 ?_
                rotate_left
                · intro w' hSw; obtain ⟨s0, sB⟩ := hSw; obtain ⟨t0, t1, t2, _⟩ := blk3 sB; go_simp <;> with_reducible rfl
                simp only [Act.put, List.setIfInBounds_toArray, List.set_cons_zero, List.set_cons_succ]
                have hB3 := HBW.out.drew
                have hO3 : OwnA W.drew w.heap.size (.slice (some ⟨g6, off6, none⟩) (q + 1) c6) (Fil.evOf (L.take (q + 1)) S) := OwnA.below HOW.out (Below.refl _ _).drew
                clear HBW HOW hnm hVb
                generalize W.drew = w4 at *
                refine wpAnyH_one (i := 8) (by kernel_rfl) rfl (by rfl) (fun Ka hKa => ?_)
                go_simp
                have hbb : Below w4.heap.size w4 (w4.alloc (.cells #[.string ⟨xn.toArray⟩, .int .i64 rK, .int .i64 rlo, .string ⟨rf.toArray⟩] 53)) := (Below.refl _ _).alloc (Nat.le_refl _) _
                have hR4 : RdA (w4.alloc (.cells #[.string ⟨xn.toArray⟩, .int .i64 rK, .int .i64 rlo, .string ⟨rf.toArray⟩] 53)) (some ⟨w4.heap.size, 0, none⟩) [⟨xn, rK, rlo, rf⟩] := rda_one w4 ⟨xn, rK, rlo, rf⟩ 53
                have hO4 := OwnA.below hO3 hbb
                have hB4 := below_next hB3 (Nat.le_refl _) hbb
                have hS1 : (w4.alloc (.cells #[.string ⟨xn.toArray⟩, .int .i64 rK, .int .i64 rlo, .string ⟨rf.toArray⟩] 53)).cell? ⟨g, off + i * 5, none⟩ = some (.string ⟨xn.toArray⟩) ∧ Blk (w4.alloc (.cells #[.string ⟨xn.toArray⟩, .int .i64 rK, .int .i64 rlo, .string ⟨rf.toArray⟩] 53)) Pv 33 #[.int .i64 rK, .int .i64 rlo, .string ⟨rf.toArray⟩] := ⟨(hbb.cell (p := ⟨g, off + i * 5, none⟩) (by show g < _; have := hB3.size; omega)).trans hS0.1, Blk.below hS0.2 hbb hS0.2.lt⟩
                refine hKa.out _ _ hS1 ?_
                clear hKa Ka hO3 hB3 hbb hS0
                generalize w4.alloc (.cells #[.string ⟨xn.toArray⟩, .int .i64 rK, .int .i64 rlo, .string ⟨rf.toArray⟩] 53) = w5 at *
                refine wpAnyH_one (i := 9) (by kernel_rfl) rfl (by rfl) (fun Ka hKa => ?_)
                have hlj : (Fil.evOf (L.take (q + 1)) S).length = (q + 1) := by unfold Fil.evOf; rw [List.length_map, List.length_take]; omega
                refine op_append_a2 (.tmp 83) (.tmp 91) rfl w.heap.size (.slice (some ⟨g6, off6, none⟩) (q + 1) c6) (Fil.evOf (L.take (q + 1)) S) (by rfl) hO4 (some ⟨w4.heap.size, 0, none⟩) [⟨xn, rK, rlo, rf⟩] 1 1 (by rfl) hR4 rfl (by rw [hlj]; omega) hB4.size ?_
                intro v6 w6 hO6 hb6' hg6
                have hB6 := hb6' w hB4
                have hS2 : w6.cell? ⟨g, off + i * 5, none⟩ = some (.string ⟨xn.toArray⟩) ∧ Blk w6 Pv 33 #[.int .i64 rK, .int .i64 rlo, .string ⟨rf.toArray⟩] := ⟨(hB6.cell (p := ⟨g, off + i * 5, none⟩) hgw).trans hnw, (hg6.block _ hS1.2.lt (fun e => Nat.lt_irrefl _ (HLT.out _ e.symm))).trans hS1.2⟩
                have hE6 : Fil.evOf (L.take ((q + 1) + 1)) S = Fil.evOf (L.take (q + 1)) S ++ [⟨xn, rK, rlo, rf⟩] := by
                  unfold Fil.evOf
                  rw [List.take_succ_eq_append_getElem hjL, List.map_append, HJ.out]
                  simp only [List.map_cons, List.map_nil]
                  rw [HAT.out]
                rw [← hE6] at hO6
                have hl6 : (Fil.evOf (L.take ((q + 1) + 1)) S).length = (q + 1) + 1 := by rw [hE6, List.length_append, hlj]; rfl
                obtain ⟨A9, c9, hv9, hc9, hr9⟩ := OwnA.rd hO6
                rw [hl6] at hv9 hc9
                subst hv9
                have HO6 := Lib.hid hO6
                have HB6 := Lib.hid hB6
                have HC9 := Lib.hid hc9
                refine hKa.out _ _ hS2 ?_
                clear hKa Ka hO4 hB4 hR4 hS1 hb6' hg6 hO6 hB6 hE6 hl6 hr9 hlj hc9
                simp only [Act.put, List.setIfInBounds_toArray, List.set_cons_zero, List.set_cons_succ]
                refine wpAnyH_yes (i := 10) (d := 7) (v := ?_) rfl rfl (by kernel_rfl) (by kernel_rfl) (by kernel_rfl) (fun _ _ _ h => h) (by rfl) ?_ hS2 ?_
                rotate_left
                · intro w' hSw; obtain ⟨s0, sB⟩ := hSw; go_simp <;> with_reducible rfl
                simp only [Act.put, List.setIfInBounds_toArray, List.set_cons_zero, List.set_cons_succ]
                refine wpAnyH_done (by kernel_rfl) ?_ _
                clear hS2
                go_wp2_with fail
                go_roundg (k - (i + 1))
                case measure => omega
                case rel => exact ⟨i + 1, (q + 1) + 1, A9, c9, by omega, Nat.le_refl _, by go_num, rfl, HU2, HO6, HB6⟩
    · have hin : i = n := by omega
      subst hin
      have hend : L.take j = L := by
        have := HU.out
        rw [← HN.out] at this
        exact Fil.upto_end HG.out this
      have hO := HO.out
      rw [hend] at hO
      obtain ⟨A9, c9, hv9, hc9, hr9⟩ := OwnA.rd hO
      injection hv9 with e1 e2 e3
      subst e1
      subst e3
      have hj : j = L.length := by rw [e2]; unfold Fil.evOf; rw [List.length_map]
      go_wp2_with fail
      go_ret
      exact ⟨_, j, _, rfl, e2.symm, by rw [e2]; exact hc9, hr9, HB.out⟩
end Go.Proofs.YtlbendiggdmljaaGreat
