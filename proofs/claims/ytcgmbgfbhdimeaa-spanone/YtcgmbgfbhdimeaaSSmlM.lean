/- The small case of layer 7, as plain mathematics; Preds of a span in its one form. -/
import Derived.Test.YtcgmbgfbhdimeaaSPrs
namespace Spans
open Go.Op (bytesLess)
def aI : List Pr := [⟨[97], 6, 1, 3, []⟩, ⟨[97], 3, 1, 6, []⟩, ⟨[97], 2, 1, 3, []⟩]
def aT : List Pr := [⟨[97], 7, 2, 0, [97, 255]⟩, ⟨[97], 2, 2, 0, [97, 255]⟩]
def spI : Sp := ⟨1, 4, 5, [], [], false, []⟩
def spT : Sp := ⟨2, 0, 0, [97, 255, 0], [98], false, []⟩
theorem canI : CanonN spI := ⟨.inl rfl, rfl, rfl, rfl, by decide, by decide, by decide, by intro v hv; simp [spI] at hv, List.Pairwise.nil⟩
theorem canT : CanonT spT := by
  refine ⟨rfl, rfl, rfl, .inl (by decide), by intro v hv; simp [spT] at hv, List.Pairwise.nil, by decide, fun _ => ⟨.inl (by decide), by decide, fun u hu hv => by simp [spT] at hv⟩⟩
theorem r1 : rightP ⟨[97], 6, 1, 3, []⟩ = true := by decide
theorem r2 : rightP ⟨[97], 3, 1, 6, []⟩ = true := by decide
theorem r3 : rightP ⟨[97], 2, 1, 3, []⟩ = true := by decide
theorem r4 : rightP ⟨[97], 7, 2, 0, [97, 255]⟩ = true := by decide
theorem r5 : rightP ⟨[97], 2, 2, 0, [97, 255]⟩ = true := by decide
theorem allI : IsAll aI spI := by
  refine ⟨.inr (.inr (.inl canI)), fun v hv => ?_⟩
  rw [N_iff canI]
  simp only [aI, List.forall_mem_cons, List.not_mem_nil, false_implies, implies_true, and_true]
  rw [holds_N r1 (.inl rfl) hv, holds_N r2 (.inl rfl) hv, holds_N r3 (.inl rfl) hv]
  simp only [spI, ofLo, ofHi, ofNo, sideV, lowest, highest]
  simp only [hv, true_and]
  constructor
  · rintro ⟨h1, _, h2, h3⟩
    refine ⟨⟨h1, by simp; omega, ?_, by simp⟩, ⟨h1, ?_, by simp; omega, by simp⟩, ⟨h1, ?_, ?_, ?_⟩⟩
    · have := (rightV_iff v).1 hv; simp; omega
    · have := (rightV_iff v).1 hv; simp; omega
    · have := (rightV_iff v).1 hv; simp; omega
    · have := (rightV_iff v).1 hv; simp; omega
    · simp only [if_pos, List.mem_singleton]
      intro e
      rw [e] at h2
      simp at h2
  · rintro ⟨⟨h1, h2, _⟩, ⟨_, _, h3, _⟩, ⟨_, _, _, h4⟩⟩
    have h5 : v.i ≠ 3 := by
      have := (notN (k := 1) (i := 3) hv (.inl rfl) h1).1 (by simpa using h4)
      exact this
    simp at h2 h3
    exact ⟨h1, by simp, by omega, by omega⟩
theorem allT : IsAll aT spT := by
  refine ⟨.inr (.inr (.inr canT)), fun v hv => ?_⟩
  rw [T_iff canT]
  simp only [aT, List.forall_mem_cons, List.not_mem_nil, false_implies, implies_true, and_true]
  rw [holds_T r4 rfl hv, holds_T r5 rfl hv]
  have hu : up [97, 255] = some [98] := by decide
  have e1 : ofFrm ⟨[97], 7, 2, 0, [97, 255]⟩ = [97, 255] := rfl
  have e2 : ofTo ⟨[97], 7, 2, 0, [97, 255]⟩ = [98] := by decide
  have e3 : ofOpn ⟨[97], 7, 2, 0, [97, 255]⟩ = false := by decide
  have e4 : ofNo ⟨[97], 7, 2, 0, [97, 255]⟩ = [] := rfl
  have e5 : ofFrm ⟨[97], 2, 2, 0, [97, 255]⟩ = [] := rfl
  have e6 : ofOpn ⟨[97], 2, 2, 0, [97, 255]⟩ = true := rfl
  have e7 : ofNo ⟨[97], 2, 2, 0, [97, 255]⟩ = [⟨2, 0, [97, 255]⟩] := rfl
  rw [e1, e2, e3, e4, e5, e6, e7]
  simp only [spT, hv, true_and, Bool.false_eq_true, false_or]
  have hn : ([97, 255, 0] : List UInt8) = [97, 255] ++ [0] := rfl
  rw [hn]
  constructor
  · rintro ⟨h1, _, h2, h3⟩
    have h4 := ge_iff_next.2 h2
    exact ⟨⟨h1, h4.1, h3, by simp⟩, ⟨h1, less_nil _, .inl trivial, (notT hv h1).2 h4.2⟩⟩
  · rintro ⟨⟨h1, h2, h3, _⟩, ⟨_, _, _, h5⟩⟩
    exact ⟨h1, by simp, ge_iff_next.1 ⟨h2, (notT hv h1).1 h5⟩, h3⟩
theorem allIT : IsAll (aI ++ aT) none_ := by
  refine ⟨.inl rfl, fun v hv => ?_⟩
  rw [has_none]
  refine ⟨fun h => by simp at h, fun h => ?_⟩
  have h1 := h ⟨[97], 6, 1, 3, []⟩ (by simp [aI])
  have h2 := h ⟨[97], 7, 2, 0, [97, 255]⟩ (by simp [aT])
  rw [holds_N r1 (.inl rfl) hv] at h1
  rw [holds_T r4 rfl hv] at h2
  have := h1.1
  simp at this
  omega
/-- What Preds tells, of whatever name. -/
def prs (n : List UInt8) (a : Sp) : List Pr := if 1 ≤ n.length ∧ n.length ≤ 16 then predsOf n a else []
theorem name_right (n : List UInt8) : Preds.right n 8 0 0 [] = decide (1 ≤ n.length ∧ n.length ≤ 16) := by
  unfold Preds.right Preds.asks
  simp
theorem prsI : prs [97] spI = [⟨[97], 6, 1, 4, []⟩, ⟨[97], 4, 1, 5, []⟩] := by decide
theorem prsT : prs [97] spT = [⟨[97], 5, 2, 0, [97, 255]⟩, ⟨[97], 3, 2, 0, [98]⟩] := by decide
theorem prsA : prs [97] any_ = [⟨[97], 8, 0, 0, []⟩] := by decide
theorem inI1 : inn spI any_ = true := by decide
theorem inI2 : inn any_ spI = false := by decide
end Spans
namespace Go.Proofs.Ytcgmbgfbhdimeaa
open Go.RowKit Go.Sort Spans Op
theorem frm_is (n f : List UInt8) (a : Sp) (h : a.frm = f) : (if f = [] then [] else [teP n f 6 5]) = frmP n a := by
  subst h
  unfold frmP teP cutZ
  cases hz : zeroEnd a.frm with
  | none => simp
  | some u =>
    have : a.frm ≠ [] := fun e => by rw [e] at hz; simp [zeroEnd] at hz
    simp [this]
theorem to_is (n t : List UInt8) (o : Bool) (a : Sp) (h : a.to_ = t) (ho : a.opn = o) : (if o then [] else [teP n t 3 4]) = toP n a := by
  subst h; subst ho
  unfold toP teP cutZ
  cases hz : zeroEnd a.to_ with
  | none => simp
  | some u => simp
theorem preds_at (n : List UInt8) (a : Sp) (ha : Canon a) (A : Option Addr) (m c : Nat) (w : World) (hm : a.no.length = m) (hmm : m ≤ 10000) (hr : RdW w A a.no) (hn : n.length ≤ 9223372036854775807) (l : List Pr) (hl : prs n a = l) :
    Calls Try.prog 21 #[.string ⟨n.toArray⟩, spF a.kind a.lo a.hi a.frm a.to_ a.opn A m c] w (GivesQ w l) := by
  subst hl
  unfold prs
  by_cases h0 : a.kind = 0
  · have e := kind_none ha h0
    subst e
    have e2 : predsOf n none_ = [] := rfl
    rw [e2]
    simp only [ite_self]
    exact prs_none n 0 0 [] [] false A m c w
  by_cases hnm : 1 ≤ n.length ∧ n.length ≤ 16
  · rw [if_pos hnm]
    have hrn : Preds.right n 8 0 0 [] = true := by rw [name_right]; exact decide_eq_true hnm
    rcases ha with rfl | rfl | ha | ha
    · exact absurd rfl h0
    · exact prs_any n 0 0 [] [] false A m c w hn hrn
    · obtain ⟨K, lo, hi, f, t, o, no⟩ := a
      have e1 : f = [] := ha.frm
      have e2 : t = [] := ha.to_
      have e3 : o = false := ha.opn
      subst e1; subst e2; subst e3
      have hk : K = 1 ∨ K = 3 := ha.kind
      have k4 : K ≠ 4 := by omega
      have k2 : K ≠ 2 := by omega
      have k0 : K ≠ 0 := by omega
      by_cases hlh : lo = hi
      · have e : predsOf n ⟨K, lo, hi, [], [], false, no⟩ = [⟨n, 1, K, lo, []⟩] := by unfold predsOf; simp [k0, k4, k2, hlh]
        rw [e]
        exact prsN_one n K lo hi hk A m c no w _ _ rfl rfl hn hrn hm hmm hr hlh
      · have e : predsOf n ⟨K, lo, hi, [], [], false, no⟩ = orP ((if lowest K < lo then [(⟨n, 6, K, lo, []⟩ : Pr)] else []) ++ (if hi < highest K then [(⟨n, 4, K, hi, []⟩ : Pr)] else []) ++ no.map fun v => (⟨n, 2, v.k, v.i, v.t⟩ : Pr)) ⟨n, 6, K, lowest K, []⟩ := by
          unfold predsOf
          simp only [k0, k4, k2, hlh, if_false]
          have h1 : loP n ⟨K, lo, hi, [], [], false, no⟩ = if lowest K < lo then [(⟨n, 6, K, lo, []⟩ : Pr)] else [] := by
            unfold loP lowest
            rcases hk with rfl | rfl
            · simp
            · have a1 : (0 : Int) ≤ lo := ha.low
              have a2 : hi ≤ 1 := ha.high
              have a3 : lo ≤ hi := ha.ord
              have : lo = 0 := by omega
              subst this
              simp
          have h2 : hiP n ⟨K, lo, hi, [], [], false, no⟩ = if hi < highest K then [(⟨n, 4, K, hi, []⟩ : Pr)] else [] := by
            unfold hiP highest
            rcases hk with rfl | rfl
            · simp
            · have a1 : (0 : Int) ≤ lo := ha.low
              have a2 : hi ≤ 1 := ha.high
              have a3 : lo ≤ hi := ha.ord
              have : hi = 1 := by omega
              subst this
              simp
          rw [h1, h2]
          rfl
        rw [e]
        exact prsN_more n K lo hi hk A m c no w _ _ rfl rfl hn hrn hm hmm hr hlh
    · obtain ⟨K, lo, hi, f, t, o, no⟩ := a
      have e1 : lo = 0 := ha.lo
      have e2 : hi = 0 := ha.hi
      have e3 : K = 2 := ha.kind
      subst e1; subst e2; subst e3
      have hf : f.length ≤ 1000 := by have := Short.len ha.flen; dsimp only at this; omega
      have ht : t.length ≤ 1000 := by
        cases o with
        | true => have h : t = [] := ha.isOpn rfl; subst h; simp
        | false => have := Short.len (ha.shut rfl).1; dsimp only at this; omega
      have hfp := frm_is n f ⟨2, 0, 0, f, t, o, no⟩ rfl
      have htp := to_is n t o ⟨2, 0, 0, f, t, o, no⟩ rfl rfl
      cases o with
      | true =>
        have e : predsOf n ⟨2, 0, 0, f, t, true, no⟩ = orP (frmP n ⟨2, 0, 0, f, t, true, no⟩ ++ toP n ⟨2, 0, 0, f, t, true, no⟩ ++ noP n ⟨2, 0, 0, f, t, true, no⟩) ⟨n, 6, 2, 0, []⟩ := by unfold predsOf; simp
        rw [e]
        exact prsO_more n f t hf ht A m c no w _ _ hfp htp hn hrn hm hmm hr
      | false =>
        by_cases hone : t = f ++ [0]
        · have e : predsOf n ⟨2, 0, 0, f, t, false, no⟩ = [⟨n, 1, 2, 0, f⟩] := by unfold predsOf; simp [hone]
          rw [e]
          exact prsT_one n f t hf ht A m c no w _ _ hfp htp hn hrn hm hmm hr hone
        · have e : predsOf n ⟨2, 0, 0, f, t, false, no⟩ = orP (frmP n ⟨2, 0, 0, f, t, false, no⟩ ++ toP n ⟨2, 0, 0, f, t, false, no⟩ ++ noP n ⟨2, 0, 0, f, t, false, no⟩) ⟨n, 6, 2, 0, []⟩ := by unfold predsOf; simp [hone]
          rw [e]
          exact prsT_more n f t hf ht A m c no w _ _ hfp htp hn hrn hm hmm hr hone
  · rw [if_neg hnm]
    exact prs_name n a.kind a.lo a.hi a.frm a.to_ a.opn A m c w h0 hn (by rw [name_right]; exact decide_eq_false hnm)
end Go.Proofs.Ytcgmbgfbhdimeaa
