/-
  The spans of predicates, what is in them, and their predicates are as the document's functions tell them: for every two rows of predicates, every value and every name the call of the law answers true, and all arguments read behind it as they read before. No condition.
-/
import Derived.Test.YtoffnfooeojhnaaN4
namespace Go.Proofs.Ytoffnfooeojhnaa
open Go.RowKit Go.ChangeShapes Go.WideShapes Go.ChangeAt Go.Sort Spans Op
theorem few_bd {l : List Pr} (h : fewP l = true) (hb : ∀ p ∈ l, -9223372036854775808 ≤ p.i ∧ p.i ≤ 9223372036854775807) : ∀ p ∈ l, p.n.length ≤ 100 ∧ p.t.length ≤ 100 ∧ -9223372036854775808 ≤ p.i ∧ p.i ≤ 9223372036854775807 := by
  unfold fewP at h
  simp only [Bool.and_eq_true, decide_eq_true_eq] at h
  exact fun p hp => ⟨(h.1 p hp).1, (h.1 p hp).2, (hb p hp).1, (hb p hp).2⟩
theorem few_len {l : List Pr} (h : fewP l = true) : l.length ≤ 24 := by
  unfold fewP at h
  simp only [Bool.and_eq_true, decide_eq_true_eq] at h
  exact h.2
theorem here_v {w : World} {base n cap : Nat} {A : Option Addr} {es : List Val} (h : OwnW w base (.slice A n cap) es) (h0 : 0 < es.length) : ∃ g, A = some ⟨g, 0, none⟩ ∧ base ≤ g ∧ g < w.heap.size ∧ ∀ j, w.frozen? ⟨g, j, none⟩ = false := by
  have h' : w.ownsRow base layV.T layV.k (.slice A n cap) es.length (es.flatMap layV.enc) := h
  obtain ⟨g, cap', e⟩ : ∃ g cap', Value.slice A n cap = .slice (some ⟨g, 0, none⟩) es.length cap' := by
    rcases h'.2 with ⟨e, hx⟩ | ⟨g, c', cur, e, _⟩
    · omega
    · exact ⟨g, c', e⟩
  injection e with e1 e2 e3
  subst e1; subst e3
  rw [e2] at h'
  have hlt := h'.lt g rfl
  exact ⟨g, rfl, hlt.1, hlt.2, fun j => h'.frozenAt j⟩
theorem flat_setV (x : Val) : ∀ (cs : List Val) (i : Nat), i < cs.length →
    (((cs.flatMap cellsV).set (i * 3) (.int .i64 x.k)).set (i * 3 + 1) (.int .i64 x.i)).set (i * 3 + 2) (.string ⟨x.t.toArray⟩) = (cs.set i x).flatMap cellsV
  | [], _, h => by simp at h
  | y :: r, 0, _ => by simp [cellsV]
  | y :: r, i + 1, h => by
    have ih := flat_setV x r i (by simpa using h)
    rw [show (i + 1) * 3 = i * 3 + 1 + 1 + 1 by omega]
    simp only [List.flatMap_cons, cellsV, List.cons_append, List.nil_append, List.set_cons_succ]
    rw [ih]
theorem OwnK.setV {w : World} {base g n cap : Nat} {es : List Val} (h : OwnW w base (.slice (some ⟨g, 0, none⟩) n cap) es) (hn : es.length = n) (i : Nat) (hi : i < n) (x : Val) :
    OwnW (((w.setCell ⟨g, i * 3, none⟩ (.int .i64 x.k)).setCell ⟨g, i * 3 + 1, none⟩ (.int .i64 x.i)).setCell ⟨g, i * 3 + 2, none⟩ (.string ⟨x.t.toArray⟩)) base (.slice (some ⟨g, 0, none⟩) n cap) (es.set i x) := by
  have h' : w.ownsRow base layV.T 3 (.slice (some ⟨g, 0, none⟩) n cap) n (es.flatMap cellsV) := by
    have h0 : w.ownsRow base layV.T layV.k (.slice (some ⟨g, 0, none⟩) n cap) es.length (es.flatMap layV.enc) := h
    rw [hn] at h0
    exact h0
  have h3 := (((h'.stored (i * 3) (.int .i64 x.k)).1.stored (i * 3 + 1) (.int .i64 x.i)).1.stored (i * 3 + 2) (.string ⟨x.t.toArray⟩)).1
  rw [flat_setV x es i (by omega)] at h3
  show World.ownsRow _ base layV.T layV.k _ (es.set i x).length ((es.set i x).flatMap layV.enc)
  rw [List.length_set, hn]
  exact h3
/-- A block of another type is not a row's. -/
theorem blk_ne {w : World} {q g base n cap : Nat} {t : TypeId} {cs : Array Value} {es : List Val} (hB : Blk w q t cs) (h : OwnW w base (.slice (some ⟨g, 0, none⟩) n cap) es) (ht : t ≠ layV.T) : q ≠ g := by
  rintro rfl
  have h' : w.ownsRow base layV.T layV.k (.slice (some ⟨q, 0, none⟩) n cap) es.length (es.flatMap layV.enc) := h
  rcases h'.2 with ⟨e, _⟩ | ⟨g', c', cur, e, _, hg, _⟩
  · simp at e
  · injection e with e1 e2 e3
    injection e1 with e1
    injection e1 with e1
    subst e1
    have hB' : w.heap[q]? = some (.cells cs t (0, 0)) := hB
    rw [hB'] at hg
    simp at hg
    exact ht hg.2
theorem orP_len9 (l : List Pr) (d : Pr) : (orP l d).length ≤ l.length + 1 := by
  unfold orP
  split
  · simp
  · omega
theorem prs_len9 (n : List UInt8) (a : Sp) : (prs n a).length ≤ a.no.length + 3 := by
  have h1 : (frmP n a).length ≤ 1 := by
    unfold frmP
    repeat' split
    all_goals simp
  have h2 : (toP n a).length ≤ 1 := by
    unfold toP
    repeat' split
    all_goals simp
  have h3 : (loP n a).length ≤ 1 := by unfold loP; split <;> simp
  have h4 : (hiP n a).length ≤ 1 := by unfold hiP; split <;> simp
  have h5 : (noP n a).length = a.no.length := by simp [noP]
  unfold prs predsOf
  repeat' split
  all_goals first
    | (simp; done)
    | (refine Nat.le_trans (orP_len9 _ _) ?_; simp only [List.length_append]; omega)
    | (simp only [List.length_append, List.length_cons, List.length_nil]; omega)
set_option maxRecDepth 100000 in
set_option maxHeartbeats 8000000 in
theorem walk_SpanReckons (w : World) (A : Option Addr) (l : List Pr) (n c : Nat) (hn : l.length = n) (hc : n ≤ c) (hm : c ≤ maxLen) (hr : RdQ w A l) (hl : ∀ a ∈ l, a.n.length ≤ maxLen ∧ a.t.length ≤ maxLen ∧ (Lit.int .i64 a.i).wf = true) (A2 : Option Addr) (m : List Pr) (n2 c2 : Nat) (hn2 : m.length = n2) (hc2 : n2 ≤ c2) (hm2 : c2 ≤ maxLen) (hr2 : RdQ w A2 m) (hl2 : ∀ a ∈ m, a.n.length ≤ maxLen ∧ a.t.length ≤ maxLen ∧ (Lit.int .i64 a.i).wf = true) (k i : Int) (x : List UInt8) (_ : (Lit.int .i64 k).wf = true) (wi : (Lit.int .i64 i).wf = true) (hx : x.length ≤ maxLen) (nm : List UInt8) (hnm : nm.length ≤ maxLen) :
    Calls Try.prog 3 #[.slice A n c, .slice A2 n2 c2, .agg #[.int .i64 k, .int .i64 i, .string ⟨x.toArray⟩], .string ⟨nm.toArray⟩] w fun e w' => e = .returned (.bool true) ∧ Below w.heap.size w w' := by
  rw [maxLen_num] at hm hm2 hx hnm
  have bi := bounds_i64 wi
  have HBI : Hid (-9223372036854775808 ≤ i ∧ i ≤ 9223372036854775807) := bi
  have HL2 : Hid (∀ p ∈ l, p.n.length ≤ 9223372036854775807 ∧ p.t.length ≤ 9223372036854775807) := fun p hp => by have := hl p hp; rw [maxLen_num] at this; exact ⟨this.1, this.2.1⟩
  have HL3 : Hid (∀ p ∈ l, -9223372036854775808 ≤ p.i ∧ p.i ≤ 9223372036854775807) := fun p hp => bounds_i64 (hl p hp).2.2
  have HNL := Lib.hid hn
  have RL := Lib.hid hr
  have HM2 : Hid (∀ p ∈ m, p.n.length ≤ 9223372036854775807 ∧ p.t.length ≤ 9223372036854775807) := fun p hp => by have := hl2 p hp; rw [maxLen_num] at this; exact ⟨this.1, this.2.1⟩
  have HM3 : Hid (∀ p ∈ m, -9223372036854775808 ≤ p.i ∧ p.i ≤ 9223372036854775807) := fun p hp => bounds_i64 (hl2 p hp).2.2
  have HNM := Lib.hid hn2
  have RM := Lib.hid hr2
  clear hn hl hr wi bi hn2 hl2 hr2
  have hV0 := Blk.new w 24 #[.int .i64 k, .int .i64 i, .string ⟨x.toArray⟩]
  have hb0 := (gr1 w (.cells #[.int .i64 k, .int .i64 i, .string ⟨x.toArray⟩] 24)).below
  have HV := Lib.hid hV0
  have BB := Lib.hid hb0
  have hsv : w.heap.size < (w.alloc (.cells #[.int .i64 k, .int .i64 i, .string ⟨x.toArray⟩] 24)).heap.size := hV0.lt
  clear hV0 hb0 hsv
  go_enter Try.func3, Try.ntmps3
  go_wp2_with fail
  generalize w.alloc (.cells #[.int .i64 k, .int .i64 i, .string ⟨x.toArray⟩] 24) = w0 at *
  refine (small_at w0).mono ?_
  rintro e w1 ⟨rfl, hb⟩
  replace HV := Lib.hid (Blk.below HV.out hb HV.out.lt)
  replace BB := Lib.hid (below_next BB.out (by have := BB.out.size; omega) hb)
  clear hb
  obtain ⟨s0, s1, s2, _⟩ := blk3 HV.out
  have hlv := HV.out.lt
  obtain ⟨bl, hbl⟩ : ∃ b, fewP l = b := ⟨_, rfl⟩
  have HFL := Lib.hid hbl
  obtain ⟨bm, hbm⟩ : ∃ b, fewP m = b := ⟨_, rfl⟩
  have HFM := Lib.hid hbm
  clear hbl hbm
  go_wp2_with fail
  refine (few_at A l n c HNL.out (by omega) HL2.out w1 (RL.out.below BB.out) bl HFL.out).mono ?_
  rintro e w2 ⟨rfl, rfl⟩
  go_wp2_with fail
  refine (few_at A2 m n2 c2 HNM.out (by omega) HM2.out w2 (RM.out.below BB.out) bm HFM.out).mono ?_
  rintro e w3 ⟨rfl, rfl⟩
  cases bl with
  | false =>
    go_wp2_with fail
    go_ret
    exact ⟨rfl, BB.out⟩
  | true =>
    cases bm with
    | false =>
      go_wp2_with fail
      go_ret
      exact ⟨rfl, BB.out⟩
    | true =>
      by_cases hx1 : 100 < x.length
      · have d1 : decide ((100 : Int) < (x.length : Int)) = true := decide_eq_true (by omega)
        go_wp2_with fail
        go_ret
        exact ⟨rfl, BB.out⟩
      · have d1 : decide ((100 : Int) < (x.length : Int)) = false := decide_eq_false (by omega)
        by_cases hn1 : 100 < nm.length
        · have d2 : decide ((100 : Int) < (nm.length : Int)) = true := decide_eq_true (by omega)
          go_wp2_with fail
          go_ret
          exact ⟨rfl, BB.out⟩
        · have d2 : decide ((100 : Int) < (nm.length : Int)) = false := decide_eq_false (by omega)
          have HPL := Lib.hid (few_bd HFL.out HL3.out)
          have HPM := Lib.hid (few_bd HFM.out HM3.out)
          have hl24 : n ≤ 24 := by rw [← HNL.out]; exact few_len HFL.out
          have hm24 : n2 ≤ 24 := by rw [← HNM.out]; exact few_len HFM.out
          go_wp2_with fail
          clear d1 d2
          clear s0 s1 s2 hlv
          refine (fold_at A l n c HNL.out (by omega) HPL.out w3 (RL.out.below BB.out)).mono ?_
          rintro e ya ⟨⟨aK, alo, ahi, af, ag, aq, ano⟩, hia, hda, Xa, ad, ae, rfl, hla, hea, hoa, hb9⟩
          dsimp only at hda hla hoa
          have HIa := Lib.hid hia
          have HLa := Lib.hid hla
          have hna : ad ≤ 24 := by have h9 := HNL.out; have h8 := HNM.out; omega
          have Oa : Hid (OwnW ya w.heap.size (.slice Xa ad ae) ano) := hoa.less (by have := BB.out.size; omega)
          clear hia hla hoa hda
          replace HV := Lib.hid (Blk.below HV.out hb9 HV.out.lt)
          replace BB := Lib.hid (below_next BB.out (by have := BB.out.size; omega) hb9)
          clear hb9
          have HBa : Hid (Blk (ya.alloc (.cells #[.int .i64 aK, .int .i64 alo, .int .i64 ahi, .string ⟨af.toArray⟩, .string ⟨ag.toArray⟩, .bool aq, .slice Xa ad ae] 29)) ya.heap.size 29 #[.int .i64 aK, .int .i64 alo, .int .i64 ahi, .string ⟨af.toArray⟩, .string ⟨ag.toArray⟩, .bool aq, .slice Xa ad ae]) := Blk.new _ _ _
          have hb : Below ya.heap.size ya (ya.alloc (.cells #[.int .i64 aK, .int .i64 alo, .int .i64 ahi, .string ⟨af.toArray⟩, .string ⟨ag.toArray⟩, .bool aq, .slice Xa ad ae] 29)) := (gr1 ya _).below
          go_wp2_with fail
          replace HV := Lib.hid (Blk.below HV.out hb HV.out.lt)
          replace BB := Lib.hid (below_next BB.out (by have := BB.out.size; omega) hb)
          replace Oa := Lib.hid (OwnK.below Oa.out hb)
          clear hb
          generalize ya.alloc (.cells #[.int .i64 aK, .int .i64 alo, .int .i64 ahi, .string ⟨af.toArray⟩, .string ⟨ag.toArray⟩, .bool aq, .slice Xa ad ae] 29) = w4 at *
          generalize hpa : ya.heap.size = qa at *
          clear hpa
          refine (fold_at A2 m n2 c2 HNM.out (by omega) HPM.out w4 (RM.out.below BB.out)).mono ?_
          rintro e yb ⟨⟨bK, blo, bhi, bf, bg, bq, bno⟩, hib, hdb, Xb, bd, be, rfl, hlb, heb, hob, hb9⟩
          dsimp only at hdb hlb hob
          have HIb := Lib.hid hib
          have HLb := Lib.hid hlb
          have hnb : bd ≤ 24 := by have h9 := HNL.out; have h8 := HNM.out; omega
          have Ob : Hid (OwnW yb w.heap.size (.slice Xb bd be) bno) := hob.less (by have := BB.out.size; omega)
          clear hib hlb hob hdb
          replace HV := Lib.hid (Blk.below HV.out hb9 HV.out.lt)
          replace BB := Lib.hid (below_next BB.out (by have := BB.out.size; omega) hb9)
          replace Oa := Lib.hid (OwnK.below Oa.out hb9)
          replace HBa := Lib.hid (Blk.below HBa.out hb9 HBa.out.lt)
          clear hb9
          have HBb : Hid (Blk (yb.alloc (.cells #[.int .i64 bK, .int .i64 blo, .int .i64 bhi, .string ⟨bf.toArray⟩, .string ⟨bg.toArray⟩, .bool bq, .slice Xb bd be] 29)) yb.heap.size 29 #[.int .i64 bK, .int .i64 blo, .int .i64 bhi, .string ⟨bf.toArray⟩, .string ⟨bg.toArray⟩, .bool bq, .slice Xb bd be]) := Blk.new _ _ _
          have hb : Below yb.heap.size yb (yb.alloc (.cells #[.int .i64 bK, .int .i64 blo, .int .i64 bhi, .string ⟨bf.toArray⟩, .string ⟨bg.toArray⟩, .bool bq, .slice Xb bd be] 29)) := (gr1 yb _).below
          go_wp2_with fail
          replace HV := Lib.hid (Blk.below HV.out hb HV.out.lt)
          replace BB := Lib.hid (below_next BB.out (by have := BB.out.size; omega) hb)
          replace Oa := Lib.hid (OwnK.below Oa.out hb)
          replace HBa := Lib.hid (Blk.below HBa.out hb HBa.out.lt)
          replace Ob := Lib.hid (OwnK.below Ob.out hb)
          clear hb
          generalize yb.alloc (.cells #[.int .i64 bK, .int .i64 blo, .int .i64 bhi, .string ⟨bf.toArray⟩, .string ⟨bg.toArray⟩, .bool bq, .slice Xb bd be] 29) = w5 at *
          generalize hpb : yb.heap.size = qb at *
          clear hpb
          refine (rfold_at A l n c HNL.out (by omega) HPL.out w5 (RL.out.below BB.out)).mono ?_
          rintro e yc ⟨⟨cK, clo, chi, cf, cg, cq, cno⟩, hic, hdc, Xc, cd, ce, rfl, hlc, hec, hoc, hb9⟩
          dsimp only at hdc hlc hoc
          have HIc := Lib.hid hic
          have HLc := Lib.hid hlc
          have hnc : cd ≤ 24 := by have h9 := HNL.out; have h8 := HNM.out; omega
          have Oc : Hid (OwnW yc w.heap.size (.slice Xc cd ce) cno) := hoc.less (by have := BB.out.size; omega)
          clear hic hlc hoc hdc
          replace HV := Lib.hid (Blk.below HV.out hb9 HV.out.lt)
          replace BB := Lib.hid (below_next BB.out (by have := BB.out.size; omega) hb9)
          replace Oa := Lib.hid (OwnK.below Oa.out hb9)
          replace HBa := Lib.hid (Blk.below HBa.out hb9 HBa.out.lt)
          replace Ob := Lib.hid (OwnK.below Ob.out hb9)
          replace HBb := Lib.hid (Blk.below HBb.out hb9 HBb.out.lt)
          clear hb9
          have HBc : Hid (Blk (yc.alloc (.cells #[.int .i64 cK, .int .i64 clo, .int .i64 chi, .string ⟨cf.toArray⟩, .string ⟨cg.toArray⟩, .bool cq, .slice Xc cd ce] 29)) yc.heap.size 29 #[.int .i64 cK, .int .i64 clo, .int .i64 chi, .string ⟨cf.toArray⟩, .string ⟨cg.toArray⟩, .bool cq, .slice Xc cd ce]) := Blk.new _ _ _
          have hb : Below yc.heap.size yc (yc.alloc (.cells #[.int .i64 cK, .int .i64 clo, .int .i64 chi, .string ⟨cf.toArray⟩, .string ⟨cg.toArray⟩, .bool cq, .slice Xc cd ce] 29)) := (gr1 yc _).below
          go_wp2_with fail
          replace HV := Lib.hid (Blk.below HV.out hb HV.out.lt)
          replace BB := Lib.hid (below_next BB.out (by have := BB.out.size; omega) hb)
          replace Oa := Lib.hid (OwnK.below Oa.out hb)
          replace HBa := Lib.hid (Blk.below HBa.out hb HBa.out.lt)
          replace Ob := Lib.hid (OwnK.below Ob.out hb)
          replace HBb := Lib.hid (Blk.below HBb.out hb HBb.out.lt)
          replace Oc := Lib.hid (OwnK.below Oc.out hb)
          clear hb
          generalize yc.alloc (.cells #[.int .i64 cK, .int .i64 clo, .int .i64 chi, .string ⟨cf.toArray⟩, .string ⟨cg.toArray⟩, .bool cq, .slice Xc cd ce] 29) = w6 at *
          generalize hpc : yc.heap.size = qc at *
          clear hpc
          refine (rfold_at A2 m n2 c2 HNM.out (by omega) HPM.out w6 (RM.out.below BB.out)).mono ?_
          rintro e yd ⟨⟨dK, dlo, dhi, df, dg, dq, dno⟩, hid, hdd, Xd, dd, de, rfl, hld, hed, hod, hb9⟩
          dsimp only at hdd hld hod
          have HId := Lib.hid hid
          have HLd := Lib.hid hld
          have hnd : dd ≤ 24 := by have h9 := HNL.out; have h8 := HNM.out; omega
          have Od : Hid (OwnW yd w.heap.size (.slice Xd dd de) dno) := hod.less (by have := BB.out.size; omega)
          clear hid hld hod hdd
          replace HV := Lib.hid (Blk.below HV.out hb9 HV.out.lt)
          replace BB := Lib.hid (below_next BB.out (by have := BB.out.size; omega) hb9)
          replace Oa := Lib.hid (OwnK.below Oa.out hb9)
          replace HBa := Lib.hid (Blk.below HBa.out hb9 HBa.out.lt)
          replace Ob := Lib.hid (OwnK.below Ob.out hb9)
          replace HBb := Lib.hid (Blk.below HBb.out hb9 HBb.out.lt)
          replace Oc := Lib.hid (OwnK.below Oc.out hb9)
          replace HBc := Lib.hid (Blk.below HBc.out hb9 HBc.out.lt)
          clear hb9
          have HBd : Hid (Blk (yd.alloc (.cells #[.int .i64 dK, .int .i64 dlo, .int .i64 dhi, .string ⟨df.toArray⟩, .string ⟨dg.toArray⟩, .bool dq, .slice Xd dd de] 29)) yd.heap.size 29 #[.int .i64 dK, .int .i64 dlo, .int .i64 dhi, .string ⟨df.toArray⟩, .string ⟨dg.toArray⟩, .bool dq, .slice Xd dd de]) := Blk.new _ _ _
          have hb : Below yd.heap.size yd (yd.alloc (.cells #[.int .i64 dK, .int .i64 dlo, .int .i64 dhi, .string ⟨df.toArray⟩, .string ⟨dg.toArray⟩, .bool dq, .slice Xd dd de] 29)) := (gr1 yd _).below
          obtain ⟨a0, a1, a2, a3, a4, a5, a6, _⟩ := blk7 (Blk.alloc HBa.out (.cells #[.int .i64 dK, .int .i64 dlo, .int .i64 dhi, .string ⟨df.toArray⟩, .string ⟨dg.toArray⟩, .bool dq, .slice Xd dd de] 29))
          obtain ⟨b0, b1, b2, b3, b4, b5, b6, _⟩ := blk7 (Blk.alloc HBb.out (.cells #[.int .i64 dK, .int .i64 dlo, .int .i64 dhi, .string ⟨df.toArray⟩, .string ⟨dg.toArray⟩, .bool dq, .slice Xd dd de] 29))
          have hla := (Blk.alloc HBa.out (.cells #[.int .i64 dK, .int .i64 dlo, .int .i64 dhi, .string ⟨df.toArray⟩, .string ⟨dg.toArray⟩, .bool dq, .slice Xd dd de] 29)).lt
          have hlb := (Blk.alloc HBb.out (.cells #[.int .i64 dK, .int .i64 dlo, .int .i64 dhi, .string ⟨df.toArray⟩, .string ⟨dg.toArray⟩, .bool dq, .slice Xd dd de] 29)).lt
          go_wp2_with fail
          clear a0 a1 a2 a3 a4 a5 a6 b0 b1 b2 b3 b4 b5 b6 hla hlb
          replace HV := Lib.hid (Blk.below HV.out hb HV.out.lt)
          replace BB := Lib.hid (below_next BB.out (by have := BB.out.size; omega) hb)
          replace Oa := Lib.hid (OwnK.below Oa.out hb)
          replace HBa := Lib.hid (Blk.below HBa.out hb HBa.out.lt)
          replace Ob := Lib.hid (OwnK.below Ob.out hb)
          replace HBb := Lib.hid (Blk.below HBb.out hb HBb.out.lt)
          replace Oc := Lib.hid (OwnK.below Oc.out hb)
          replace HBc := Lib.hid (Blk.below HBc.out hb HBc.out.lt)
          replace Od := Lib.hid (OwnK.below Od.out hb)
          clear hb
          generalize yd.alloc (.cells #[.int .i64 dK, .int .i64 dlo, .int .i64 dhi, .string ⟨df.toArray⟩, .string ⟨dg.toArray⟩, .bool dq, .slice Xd dd de] 29) = w7 at *
          generalize hpd : yd.heap.size = qd at *
          clear hpd
          have hca9 : Canon (⟨aK, alo, ahi, af, ag, aq, ano⟩ : Sp) := HIa.out.1
          have hcb9 : Canon (⟨bK, blo, bhi, bf, bg, bq, bno⟩ : Sp) := HIb.out.1
          have Ga := HBa
          have Gb := HBb
          have Gc := HBc
          have Gd := HBd
          have Pa := Oa
          have Pb := Ob
          have Pc := Oc
          have Pd := Od
          have BB8 := BB
          have hbz : w.heap.size ≤ w7.heap.size := BB.out.size
          have B8 : Hid (Below w7.heap.size w7 w7) := Below.refl _ _
          refine (meet_at (⟨aK, alo, ahi, af, ag, aq, ano⟩ : Sp) (⟨bK, blo, bhi, bf, bg, bq, bno⟩ : Sp) hca9 hcb9 Xa ad ae Xb bd be w7 HLa.out (by omega) HLb.out (by omega) (rdk_own' Oa.out) (rdk_own' Ob.out)).mono ?_
          rintro e yx ⟨⟨xK, xlo, xhi, xf, xg, xq, xno⟩, hix, hdx, Xx, xd, xe, rfl, hlx, hex, hox, hb9⟩
          dsimp only at hdx hlx hox
          have HIx := Lib.hid hix
          have HLx := Lib.hid hlx
          have hla9 := HLa.out
          have hlb9 := HLb.out
          have hnx : xd ≤ 48 := by omega
          have Ox : Hid (OwnW yx w7.heap.size (.slice Xx xd xe) xno) := hox
          clear hix hlx hox hdx hla9 hlb9
          replace HV := Lib.hid (Blk.below HV.out hb9 HV.out.lt)
          replace BB := Lib.hid (below_next BB.out (by have := BB.out.size; omega) hb9)
          replace Oa := Lib.hid (OwnK.below Oa.out hb9)
          replace HBa := Lib.hid (Blk.below HBa.out hb9 HBa.out.lt)
          replace Ob := Lib.hid (OwnK.below Ob.out hb9)
          replace HBb := Lib.hid (Blk.below HBb.out hb9 HBb.out.lt)
          replace Oc := Lib.hid (OwnK.below Oc.out hb9)
          replace HBc := Lib.hid (Blk.below HBc.out hb9 HBc.out.lt)
          replace Od := Lib.hid (OwnK.below Od.out hb9)
          replace HBd := Lib.hid (Blk.below HBd.out hb9 HBd.out.lt)
          replace B8 := Lib.hid (below_next B8.out (by have := B8.out.size; omega) hb9)
          clear hb9
          have HBx : Hid (Blk (yx.alloc (.cells #[.int .i64 xK, .int .i64 xlo, .int .i64 xhi, .string ⟨xf.toArray⟩, .string ⟨xg.toArray⟩, .bool xq, .slice Xx xd xe] 29)) yx.heap.size 29 #[.int .i64 xK, .int .i64 xlo, .int .i64 xhi, .string ⟨xf.toArray⟩, .string ⟨xg.toArray⟩, .bool xq, .slice Xx xd xe]) := Blk.new _ _ _
          have hb : Below yx.heap.size yx (yx.alloc (.cells #[.int .i64 xK, .int .i64 xlo, .int .i64 xhi, .string ⟨xf.toArray⟩, .string ⟨xg.toArray⟩, .bool xq, .slice Xx xd xe] 29)) := (gr1 yx _).below
          go_wp2_with fail
          replace HV := Lib.hid (Blk.below HV.out hb HV.out.lt)
          replace BB := Lib.hid (below_next BB.out (by have := BB.out.size; omega) hb)
          replace Oa := Lib.hid (OwnK.below Oa.out hb)
          replace HBa := Lib.hid (Blk.below HBa.out hb HBa.out.lt)
          replace Ob := Lib.hid (OwnK.below Ob.out hb)
          replace HBb := Lib.hid (Blk.below HBb.out hb HBb.out.lt)
          replace Oc := Lib.hid (OwnK.below Oc.out hb)
          replace HBc := Lib.hid (Blk.below HBc.out hb HBc.out.lt)
          replace Od := Lib.hid (OwnK.below Od.out hb)
          replace HBd := Lib.hid (Blk.below HBd.out hb HBd.out.lt)
          replace B8 := Lib.hid (below_next B8.out (by have := B8.out.size; omega) hb)
          replace Ox := Lib.hid (OwnK.below Ox.out hb)
          clear hb
          generalize yx.alloc (.cells #[.int .i64 xK, .int .i64 xlo, .int .i64 xhi, .string ⟨xf.toArray⟩, .string ⟨xg.toArray⟩, .bool xq, .slice Xx xd xe] 29) = w8 at *
          generalize hpx : yx.heap.size = qx at *
          clear hpx
          have ECA : Hid ((⟨cK, clo, chi, cf, cg, cq, cno⟩ : Sp) = (⟨aK, alo, ahi, af, ag, aq, ano⟩ : Sp)) := HIc.out.one HIa.out
          have EDB : Hid ((⟨dK, dlo, dhi, df, dg, dq, dno⟩ : Sp) = (⟨bK, blo, bhi, bf, bg, bq, bno⟩ : Sp)) := HId.out.one HIb.out
          have Ca : Hid (Canon (⟨aK, alo, ahi, af, ag, aq, ano⟩ : Sp)) := HIa.out.1
          have Cb : Hid (Canon (⟨bK, blo, bhi, bf, bg, bq, bno⟩ : Sp)) := HIb.out.1
          have Cc : Hid (Canon (⟨cK, clo, chi, cf, cg, cq, cno⟩ : Sp)) := HIc.out.1
          have Cd : Hid (Canon (⟨dK, dlo, dhi, df, dg, dq, dno⟩ : Sp)) := HId.out.1
          have Cx : Hid (Canon (⟨xK, xlo, xhi, xf, xg, xq, xno⟩ : Sp)) := HIx.out.1
          obtain ⟨qi, hqi⟩ : ∃ q, inn (⟨aK, alo, ahi, af, ag, aq, ano⟩ : Sp) (⟨bK, blo, bhi, bf, bg, bq, bno⟩ : Sp) = q := ⟨_, rfl⟩
          have HQI := Lib.hid hqi
          obtain ⟨qh, hqh⟩ : ∃ q, has (⟨aK, alo, ahi, af, ag, aq, ano⟩ : Sp) ⟨k, i, x⟩ = q := ⟨_, rfl⟩
          have HQH := Lib.hid hqh
          clear hqi hqh
          have hbz9 := BB.out.size
          refine wp_region_held_drew (S := fun w' => Below w8.heap.size w8 w') (by kernel_rfl) (Below.refl _ _).drew (fun _ => ?_)
          have hS0 : Below w8.heap.size w8 w8.drew := (Below.refl _ _).drew
          generalize w8.drew = z0 at *
          refine wpAnyH_yes (i := 0) (d := 53) (v := ?_) rfl rfl (by kernel_rfl) (by kernel_rfl) (by kernel_rfl) (fun _ _ _ h => h) (by rfl) ?_ hS0 ?_
          rotate_left
          · intro w' hSw; obtain ⟨a0, a1, a2, a3, a4, a5, a6, _⟩ := blk7 (Blk.below HBa.out hSw HBa.out.lt); obtain ⟨b0, b1, b2, b3, b4, b5, b6, _⟩ := blk7 (Blk.below HBb.out hSw HBb.out.lt); obtain ⟨c0, c1, c2, c3, c4, c5, c6, _⟩ := blk7 (Blk.below HBc.out hSw HBc.out.lt); obtain ⟨d0, d1, d2, d3, d4, d5, d6, _⟩ := blk7 (Blk.below HBd.out hSw HBd.out.lt); obtain ⟨x0, x1, x2, x3, x4, x5, x6, _⟩ := blk7 (Blk.below HBx.out hSw HBx.out.lt); obtain ⟨s0, s1, s2, _⟩ := blk3 (Blk.below HV.out hSw HV.out.lt); go_simp <;> with_reducible rfl
          simp only [Act.put, List.setIfInBounds_toArray, List.set_cons_zero, List.set_cons_succ]
          refine wpAnyH_yes (i := 1) (d := 54) (v := ?_) rfl rfl (by kernel_rfl) (by kernel_rfl) (by kernel_rfl) (fun _ _ _ h => h) (by rfl) ?_ hS0 ?_
          rotate_left
          · intro w' hSw; obtain ⟨a0, a1, a2, a3, a4, a5, a6, _⟩ := blk7 (Blk.below HBa.out hSw HBa.out.lt); obtain ⟨b0, b1, b2, b3, b4, b5, b6, _⟩ := blk7 (Blk.below HBb.out hSw HBb.out.lt); obtain ⟨c0, c1, c2, c3, c4, c5, c6, _⟩ := blk7 (Blk.below HBc.out hSw HBc.out.lt); obtain ⟨d0, d1, d2, d3, d4, d5, d6, _⟩ := blk7 (Blk.below HBd.out hSw HBd.out.lt); obtain ⟨x0, x1, x2, x3, x4, x5, x6, _⟩ := blk7 (Blk.below HBx.out hSw HBx.out.lt); obtain ⟨s0, s1, s2, _⟩ := blk3 (Blk.below HV.out hSw HV.out.lt); go_simp <;> with_reducible rfl
          simp only [Act.put, List.setIfInBounds_toArray, List.set_cons_zero, List.set_cons_succ]
          have hsm : decide ((⟨aK, alo, ahi, af, ag, aq, ano⟩ : Sp) = (⟨cK, clo, chi, cf, cg, cq, cno⟩ : Sp)) = true := decide_eq_true ECA.out.symm
          refine wpAnyH_one (i := 2) (by kernel_rfl) rfl (by rfl) (fun Kc hKc => ?_)
          go_simp
          with_reducible refine (refSame_is aK alo ahi af ag aq Xa ad ae cK clo chi cf cg cq Xc cd ce z0 ano cno HLa.out (by omega) HLc.out (by omega) (RdK.below (rdk_own' Oa.out) hS0) (RdK.below (rdk_own' Oc.out) hS0) true hsm).mono ?_
          rintro e z1 ⟨rfl, hg⟩
          clear hsm
          have hbb := hg.below
          have hS1 := below_next hS0 (Nat.le_refl _) hbb
          go_wp2_with fail
          refine hKc.out _ _ hS1 ?_
          clear hKc
          clear hg
          refine wpAnyH_yes (i := 3) (d := 56) (v := ?_) rfl rfl (by kernel_rfl) (by kernel_rfl) (by kernel_rfl) (fun _ _ _ h => h) (by rfl) ?_ hS1 ?_
          rotate_left
          · intro w' hSw; obtain ⟨a0, a1, a2, a3, a4, a5, a6, _⟩ := blk7 (Blk.below HBa.out hSw HBa.out.lt); obtain ⟨b0, b1, b2, b3, b4, b5, b6, _⟩ := blk7 (Blk.below HBb.out hSw HBb.out.lt); obtain ⟨c0, c1, c2, c3, c4, c5, c6, _⟩ := blk7 (Blk.below HBc.out hSw HBc.out.lt); obtain ⟨d0, d1, d2, d3, d4, d5, d6, _⟩ := blk7 (Blk.below HBd.out hSw HBd.out.lt); obtain ⟨x0, x1, x2, x3, x4, x5, x6, _⟩ := blk7 (Blk.below HBx.out hSw HBx.out.lt); obtain ⟨s0, s1, s2, _⟩ := blk3 (Blk.below HV.out hSw HV.out.lt); go_simp <;> with_reducible rfl
          simp only [Act.put, List.setIfInBounds_toArray, List.set_cons_zero, List.set_cons_succ]
          refine wpAnyH_yes (i := 4) (d := 57) (v := ?_) rfl rfl (by kernel_rfl) (by kernel_rfl) (by kernel_rfl) (fun _ _ _ h => h) (by rfl) ?_ hS1 ?_
          rotate_left
          · intro w' hSw; obtain ⟨a0, a1, a2, a3, a4, a5, a6, _⟩ := blk7 (Blk.below HBa.out hSw HBa.out.lt); obtain ⟨b0, b1, b2, b3, b4, b5, b6, _⟩ := blk7 (Blk.below HBb.out hSw HBb.out.lt); obtain ⟨c0, c1, c2, c3, c4, c5, c6, _⟩ := blk7 (Blk.below HBc.out hSw HBc.out.lt); obtain ⟨d0, d1, d2, d3, d4, d5, d6, _⟩ := blk7 (Blk.below HBd.out hSw HBd.out.lt); obtain ⟨x0, x1, x2, x3, x4, x5, x6, _⟩ := blk7 (Blk.below HBx.out hSw HBx.out.lt); obtain ⟨s0, s1, s2, _⟩ := blk3 (Blk.below HV.out hSw HV.out.lt); go_simp <;> with_reducible rfl
          simp only [Act.put, List.setIfInBounds_toArray, List.set_cons_zero, List.set_cons_succ]
          refine wpAnyH_yes (i := 5) (d := 58) (v := ?_) rfl rfl (by kernel_rfl) (by kernel_rfl) (by kernel_rfl) (fun _ _ _ h => h) (by rfl) ?_ hS1 ?_
          rotate_left
          · intro w' hSw; obtain ⟨a0, a1, a2, a3, a4, a5, a6, _⟩ := blk7 (Blk.below HBa.out hSw HBa.out.lt); obtain ⟨b0, b1, b2, b3, b4, b5, b6, _⟩ := blk7 (Blk.below HBb.out hSw HBb.out.lt); obtain ⟨c0, c1, c2, c3, c4, c5, c6, _⟩ := blk7 (Blk.below HBc.out hSw HBc.out.lt); obtain ⟨d0, d1, d2, d3, d4, d5, d6, _⟩ := blk7 (Blk.below HBd.out hSw HBd.out.lt); obtain ⟨x0, x1, x2, x3, x4, x5, x6, _⟩ := blk7 (Blk.below HBx.out hSw HBx.out.lt); obtain ⟨s0, s1, s2, _⟩ := blk3 (Blk.below HV.out hSw HV.out.lt); go_simp <;> with_reducible rfl
          simp only [Act.put, List.setIfInBounds_toArray, List.set_cons_zero, List.set_cons_succ]
          have hsm : decide ((⟨bK, blo, bhi, bf, bg, bq, bno⟩ : Sp) = (⟨dK, dlo, dhi, df, dg, dq, dno⟩ : Sp)) = true := decide_eq_true EDB.out.symm
          refine wpAnyH_one (i := 6) (by kernel_rfl) rfl (by rfl) (fun Kc hKc => ?_)
          go_simp
          with_reducible refine (refSame_is bK blo bhi bf bg bq Xb bd be dK dlo dhi df dg dq Xd dd de z1 bno dno HLb.out (by omega) HLd.out (by omega) (RdK.below (rdk_own' Ob.out) hS1) (RdK.below (rdk_own' Od.out) hS1) true hsm).mono ?_
          rintro e z2 ⟨rfl, hg⟩
          clear hsm
          have hbb := hg.below
          have hS2 := below_next hS1 (Nat.le_refl _) hbb
          go_wp2_with fail
          refine hKc.out _ _ hS2 ?_
          clear hKc
          clear hg
          refine wpAnyH_yes (i := 7) (d := 60) (v := ?_) rfl rfl (by kernel_rfl) (by kernel_rfl) (by kernel_rfl) (fun _ _ _ h => h) (by rfl) ?_ hS2 ?_
          rotate_left
          · intro w' hSw; obtain ⟨a0, a1, a2, a3, a4, a5, a6, _⟩ := blk7 (Blk.below HBa.out hSw HBa.out.lt); obtain ⟨b0, b1, b2, b3, b4, b5, b6, _⟩ := blk7 (Blk.below HBb.out hSw HBb.out.lt); obtain ⟨c0, c1, c2, c3, c4, c5, c6, _⟩ := blk7 (Blk.below HBc.out hSw HBc.out.lt); obtain ⟨d0, d1, d2, d3, d4, d5, d6, _⟩ := blk7 (Blk.below HBd.out hSw HBd.out.lt); obtain ⟨x0, x1, x2, x3, x4, x5, x6, _⟩ := blk7 (Blk.below HBx.out hSw HBx.out.lt); obtain ⟨s0, s1, s2, _⟩ := blk3 (Blk.below HV.out hSw HV.out.lt); go_simp <;> with_reducible rfl
          simp only [Act.put, List.setIfInBounds_toArray, List.set_cons_zero, List.set_cons_succ]
          refine wpAnyH_yes (i := 8) (d := 61) (v := ?_) rfl rfl (by kernel_rfl) (by kernel_rfl) (by kernel_rfl) (fun _ _ _ h => h) (by rfl) ?_ hS2 ?_
          rotate_left
          · intro w' hSw; obtain ⟨a0, a1, a2, a3, a4, a5, a6, _⟩ := blk7 (Blk.below HBa.out hSw HBa.out.lt); obtain ⟨b0, b1, b2, b3, b4, b5, b6, _⟩ := blk7 (Blk.below HBb.out hSw HBb.out.lt); obtain ⟨c0, c1, c2, c3, c4, c5, c6, _⟩ := blk7 (Blk.below HBc.out hSw HBc.out.lt); obtain ⟨d0, d1, d2, d3, d4, d5, d6, _⟩ := blk7 (Blk.below HBd.out hSw HBd.out.lt); obtain ⟨x0, x1, x2, x3, x4, x5, x6, _⟩ := blk7 (Blk.below HBx.out hSw HBx.out.lt); obtain ⟨s0, s1, s2, _⟩ := blk3 (Blk.below HV.out hSw HV.out.lt); go_simp <;> with_reducible rfl
          simp only [Act.put, List.setIfInBounds_toArray, List.set_cons_zero, List.set_cons_succ]
          refine wpAnyH_yes (i := 9) (d := 62) (v := ?_) rfl rfl (by kernel_rfl) (by kernel_rfl) (by kernel_rfl) (fun _ _ _ h => h) (by rfl) ?_ hS2 ?_
          rotate_left
          · intro w' hSw; obtain ⟨a0, a1, a2, a3, a4, a5, a6, _⟩ := blk7 (Blk.below HBa.out hSw HBa.out.lt); obtain ⟨b0, b1, b2, b3, b4, b5, b6, _⟩ := blk7 (Blk.below HBb.out hSw HBb.out.lt); obtain ⟨c0, c1, c2, c3, c4, c5, c6, _⟩ := blk7 (Blk.below HBc.out hSw HBc.out.lt); obtain ⟨d0, d1, d2, d3, d4, d5, d6, _⟩ := blk7 (Blk.below HBd.out hSw HBd.out.lt); obtain ⟨x0, x1, x2, x3, x4, x5, x6, _⟩ := blk7 (Blk.below HBx.out hSw HBx.out.lt); obtain ⟨s0, s1, s2, _⟩ := blk3 (Blk.below HV.out hSw HV.out.lt); go_simp <;> with_reducible rfl
          simp only [Act.put, List.setIfInBounds_toArray, List.set_cons_zero, List.set_cons_succ]
          refine wpAnyH_yes (i := 10) (d := 63) (v := ?_) rfl rfl (by kernel_rfl) (by kernel_rfl) (by kernel_rfl) (fun _ _ _ h => h) (by rfl) ?_ hS2 ?_
          rotate_left
          · intro w' hSw; obtain ⟨a0, a1, a2, a3, a4, a5, a6, _⟩ := blk7 (Blk.below HBa.out hSw HBa.out.lt); obtain ⟨b0, b1, b2, b3, b4, b5, b6, _⟩ := blk7 (Blk.below HBb.out hSw HBb.out.lt); obtain ⟨c0, c1, c2, c3, c4, c5, c6, _⟩ := blk7 (Blk.below HBc.out hSw HBc.out.lt); obtain ⟨d0, d1, d2, d3, d4, d5, d6, _⟩ := blk7 (Blk.below HBd.out hSw HBd.out.lt); obtain ⟨x0, x1, x2, x3, x4, x5, x6, _⟩ := blk7 (Blk.below HBx.out hSw HBx.out.lt); obtain ⟨s0, s1, s2, _⟩ := blk3 (Blk.below HV.out hSw HV.out.lt); go_simp <;> with_reducible rfl
          simp only [Act.put, List.setIfInBounds_toArray, List.set_cons_zero, List.set_cons_succ]
          refine wpAnyH_yes (i := 11) (d := 64) (v := ?_) rfl rfl (by kernel_rfl) (by kernel_rfl) (by kernel_rfl) (fun _ _ _ h => h) (by rfl) ?_ hS2 ?_
          rotate_left
          · intro w' hSw; obtain ⟨a0, a1, a2, a3, a4, a5, a6, _⟩ := blk7 (Blk.below HBa.out hSw HBa.out.lt); obtain ⟨b0, b1, b2, b3, b4, b5, b6, _⟩ := blk7 (Blk.below HBb.out hSw HBb.out.lt); obtain ⟨c0, c1, c2, c3, c4, c5, c6, _⟩ := blk7 (Blk.below HBc.out hSw HBc.out.lt); obtain ⟨d0, d1, d2, d3, d4, d5, d6, _⟩ := blk7 (Blk.below HBd.out hSw HBd.out.lt); obtain ⟨x0, x1, x2, x3, x4, x5, x6, _⟩ := blk7 (Blk.below HBx.out hSw HBx.out.lt); obtain ⟨s0, s1, s2, _⟩ := blk3 (Blk.below HV.out hSw HV.out.lt); go_simp <;> with_reducible rfl
          simp only [Act.put, List.setIfInBounds_toArray, List.set_cons_zero, List.set_cons_succ]
          refine wpAnyH_one (i := 12) (by kernel_rfl) rfl (by rfl) (fun Kc hKc => ?_)
          go_simp
          with_reducible refine (rmeet_at w.heap.size (⟨cK, clo, chi, cf, cg, cq, cno⟩ : Sp) (⟨dK, dlo, dhi, df, dg, dq, dno⟩ : Sp) Cc.out Cd.out Xc cd ce Xd dd de z2 HLc.out (by omega) HLd.out (by omega) (Nat.le_trans hbz9 hS2.size) hec hed (OwnK.below Oc.out hS2) (OwnK.below Od.out hS2)).mono ?_
          rintro e z3 ⟨⟨rK, rlo, rhi, rf, rg, rq, rno⟩, him, hdr, Xr, rd, re, rfl, hlr, her, hor, hb9⟩
          dsimp only at hdr hlr hor
          have ERX : Hid ((⟨xK, xlo, xhi, xf, xg, xq, xno⟩ : Sp) = (⟨rK, rlo, rhi, rf, rg, rq, rno⟩ : Sp)) := by
            have h1 := him
            rw [ECA.out, EDB.out] at h1
            exact HIx.out.one h1
          have HLr := Lib.hid hlr
          have hlc9 := HLc.out
          have hld9 := HLd.out
          have hnr : rd ≤ 48 := by omega
          have hrr := rdk_own' hor
          clear him hor hlr hdr hlc9 hld9
          have hS3 := below_next hS2 (Nat.le_refl _) hb9
          go_wp2_with fail
          refine hKc.out _ _ hS3 ?_
          clear hKc
          have hsm : decide ((⟨xK, xlo, xhi, xf, xg, xq, xno⟩ : Sp) = (⟨rK, rlo, rhi, rf, rg, rq, rno⟩ : Sp)) = true := decide_eq_true ERX.out
          refine wpAnyH_one (i := 13) (by kernel_rfl) rfl (by rfl) (fun Kc hKc => ?_)
          go_simp
          with_reducible refine (refSame_is xK xlo xhi xf xg xq Xx xd xe rK rlo rhi rf rg rq Xr rd re z3 xno rno HLx.out (by omega) HLr.out (by omega) (RdK.below (rdk_own' Ox.out) hS3) hrr true hsm).mono ?_
          rintro e z4 ⟨rfl, hg⟩
          clear hsm
          have hbb := hg.below
          have hS4 := below_next hS3 (Nat.le_refl _) hbb
          go_wp2_with fail
          refine hKc.out _ _ hS4 ?_
          clear hKc
          clear hg hrr
          refine wpAnyH_yes (i := 14) (d := 67) (v := ?_) rfl rfl (by kernel_rfl) (by kernel_rfl) (by kernel_rfl) (fun _ _ _ h => h) (by rfl) ?_ hS4 ?_
          rotate_left
          · intro w' hSw; obtain ⟨a0, a1, a2, a3, a4, a5, a6, _⟩ := blk7 (Blk.below HBa.out hSw HBa.out.lt); obtain ⟨b0, b1, b2, b3, b4, b5, b6, _⟩ := blk7 (Blk.below HBb.out hSw HBb.out.lt); obtain ⟨c0, c1, c2, c3, c4, c5, c6, _⟩ := blk7 (Blk.below HBc.out hSw HBc.out.lt); obtain ⟨d0, d1, d2, d3, d4, d5, d6, _⟩ := blk7 (Blk.below HBd.out hSw HBd.out.lt); obtain ⟨x0, x1, x2, x3, x4, x5, x6, _⟩ := blk7 (Blk.below HBx.out hSw HBx.out.lt); obtain ⟨s0, s1, s2, _⟩ := blk3 (Blk.below HV.out hSw HV.out.lt); go_simp <;> with_reducible rfl
          simp only [Act.put, List.setIfInBounds_toArray, List.set_cons_zero, List.set_cons_succ]
          refine wpAnyH_yes (i := 15) (d := 68) (v := ?_) rfl rfl (by kernel_rfl) (by kernel_rfl) (by kernel_rfl) (fun _ _ _ h => h) (by rfl) ?_ hS4 ?_
          rotate_left
          · intro w' hSw; obtain ⟨a0, a1, a2, a3, a4, a5, a6, _⟩ := blk7 (Blk.below HBa.out hSw HBa.out.lt); obtain ⟨b0, b1, b2, b3, b4, b5, b6, _⟩ := blk7 (Blk.below HBb.out hSw HBb.out.lt); obtain ⟨c0, c1, c2, c3, c4, c5, c6, _⟩ := blk7 (Blk.below HBc.out hSw HBc.out.lt); obtain ⟨d0, d1, d2, d3, d4, d5, d6, _⟩ := blk7 (Blk.below HBd.out hSw HBd.out.lt); obtain ⟨x0, x1, x2, x3, x4, x5, x6, _⟩ := blk7 (Blk.below HBx.out hSw HBx.out.lt); obtain ⟨s0, s1, s2, _⟩ := blk3 (Blk.below HV.out hSw HV.out.lt); go_simp <;> with_reducible rfl
          simp only [Act.put, List.setIfInBounds_toArray, List.set_cons_zero, List.set_cons_succ]
          refine wpAnyH_yes (i := 16) (d := 69) (v := ?_) rfl rfl (by kernel_rfl) (by kernel_rfl) (by kernel_rfl) (fun _ _ _ h => h) (by rfl) ?_ hS4 ?_
          rotate_left
          · intro w' hSw; obtain ⟨a0, a1, a2, a3, a4, a5, a6, _⟩ := blk7 (Blk.below HBa.out hSw HBa.out.lt); obtain ⟨b0, b1, b2, b3, b4, b5, b6, _⟩ := blk7 (Blk.below HBb.out hSw HBb.out.lt); obtain ⟨c0, c1, c2, c3, c4, c5, c6, _⟩ := blk7 (Blk.below HBc.out hSw HBc.out.lt); obtain ⟨d0, d1, d2, d3, d4, d5, d6, _⟩ := blk7 (Blk.below HBd.out hSw HBd.out.lt); obtain ⟨x0, x1, x2, x3, x4, x5, x6, _⟩ := blk7 (Blk.below HBx.out hSw HBx.out.lt); obtain ⟨s0, s1, s2, _⟩ := blk3 (Blk.below HV.out hSw HV.out.lt); go_simp <;> with_reducible rfl
          simp only [Act.put, List.setIfInBounds_toArray, List.set_cons_zero, List.set_cons_succ]
          refine wpAnyH_yes (i := 17) (d := 70) (v := ?_) rfl rfl (by kernel_rfl) (by kernel_rfl) (by kernel_rfl) (fun _ _ _ h => h) (by rfl) ?_ hS4 ?_
          rotate_left
          · intro w' hSw; obtain ⟨a0, a1, a2, a3, a4, a5, a6, _⟩ := blk7 (Blk.below HBa.out hSw HBa.out.lt); obtain ⟨b0, b1, b2, b3, b4, b5, b6, _⟩ := blk7 (Blk.below HBb.out hSw HBb.out.lt); obtain ⟨c0, c1, c2, c3, c4, c5, c6, _⟩ := blk7 (Blk.below HBc.out hSw HBc.out.lt); obtain ⟨d0, d1, d2, d3, d4, d5, d6, _⟩ := blk7 (Blk.below HBd.out hSw HBd.out.lt); obtain ⟨x0, x1, x2, x3, x4, x5, x6, _⟩ := blk7 (Blk.below HBx.out hSw HBx.out.lt); obtain ⟨s0, s1, s2, _⟩ := blk3 (Blk.below HV.out hSw HV.out.lt); go_simp <;> with_reducible rfl
          simp only [Act.put, List.setIfInBounds_toArray, List.set_cons_zero, List.set_cons_succ]
          refine wpAnyH_yes (i := 19) (d := 72) (v := ?_) rfl rfl (by kernel_rfl) (by kernel_rfl) (by kernel_rfl) (fun _ _ _ h => h) (by rfl) ?_ hS4 ?_
          rotate_left
          · intro w' hSw; obtain ⟨a0, a1, a2, a3, a4, a5, a6, _⟩ := blk7 (Blk.below HBa.out hSw HBa.out.lt); obtain ⟨b0, b1, b2, b3, b4, b5, b6, _⟩ := blk7 (Blk.below HBb.out hSw HBb.out.lt); obtain ⟨c0, c1, c2, c3, c4, c5, c6, _⟩ := blk7 (Blk.below HBc.out hSw HBc.out.lt); obtain ⟨d0, d1, d2, d3, d4, d5, d6, _⟩ := blk7 (Blk.below HBd.out hSw HBd.out.lt); obtain ⟨x0, x1, x2, x3, x4, x5, x6, _⟩ := blk7 (Blk.below HBx.out hSw HBx.out.lt); obtain ⟨s0, s1, s2, _⟩ := blk3 (Blk.below HV.out hSw HV.out.lt); go_simp <;> with_reducible rfl
          simp only [Act.put, List.setIfInBounds_toArray, List.set_cons_zero, List.set_cons_succ]
          refine wpAnyH_yes (i := 20) (d := 73) (v := ?_) rfl rfl (by kernel_rfl) (by kernel_rfl) (by kernel_rfl) (fun _ _ _ h => h) (by rfl) ?_ hS4 ?_
          rotate_left
          · intro w' hSw; obtain ⟨a0, a1, a2, a3, a4, a5, a6, _⟩ := blk7 (Blk.below HBa.out hSw HBa.out.lt); obtain ⟨b0, b1, b2, b3, b4, b5, b6, _⟩ := blk7 (Blk.below HBb.out hSw HBb.out.lt); obtain ⟨c0, c1, c2, c3, c4, c5, c6, _⟩ := blk7 (Blk.below HBc.out hSw HBc.out.lt); obtain ⟨d0, d1, d2, d3, d4, d5, d6, _⟩ := blk7 (Blk.below HBd.out hSw HBd.out.lt); obtain ⟨x0, x1, x2, x3, x4, x5, x6, _⟩ := blk7 (Blk.below HBx.out hSw HBx.out.lt); obtain ⟨s0, s1, s2, _⟩ := blk3 (Blk.below HV.out hSw HV.out.lt); go_simp <;> with_reducible rfl
          simp only [Act.put, List.setIfInBounds_toArray, List.set_cons_zero, List.set_cons_succ]
          refine wpAnyH_one (i := 18) (by kernel_rfl) rfl (by rfl) (fun Kc hKc => ?_)
          go_simp
          with_reducible refine (in_at (⟨aK, alo, ahi, af, ag, aq, ano⟩ : Sp) (⟨bK, blo, bhi, bf, bg, bq, bno⟩ : Sp) Ca.out Cb.out Xa ad ae Xb bd be z4 HLa.out (by omega) HLb.out (by omega) (RdK.below (rdk_own' Oa.out) hS4) (RdK.below (rdk_own' Ob.out) hS4) qi HQI.out).mono ?_
          rintro e z5 ⟨rfl, hbb⟩
          have hS5 := below_next hS4 (Nat.le_refl _) hbb
          go_wp2_with fail
          refine hKc.out _ _ hS5 ?_
          clear hKc
          have HQI2 : Hid (inn (⟨cK, clo, chi, cf, cg, cq, cno⟩ : Sp) (⟨dK, dlo, dhi, df, dg, dq, dno⟩ : Sp) = qi) := by show _ = _; rw [ECA.out, EDB.out]; exact HQI.out
          refine wpAnyH_one (i := 21) (by kernel_rfl) rfl (by rfl) (fun Kc hKc => ?_)
          go_simp
          with_reducible refine (rin_at (⟨cK, clo, chi, cf, cg, cq, cno⟩ : Sp) (⟨dK, dlo, dhi, df, dg, dq, dno⟩ : Sp) Cc.out Cd.out Xc cd ce Xd dd de z5 HLc.out (by omega) HLd.out (by omega) (RdK.below (rdk_own' Oc.out) hS5) (RdK.below (rdk_own' Od.out) hS5) qi HQI2.out).mono ?_
          rintro e z6 ⟨rfl, hg⟩
          have hbb := hg.below
          have hS6 := below_next hS5 (Nat.le_refl _) hbb
          go_wp2_with fail
          refine hKc.out _ _ hS6 ?_
          clear hKc
          refine wpAnyH_yes (i := 22) (d := 75) (v := ?_) rfl rfl (by kernel_rfl) (by kernel_rfl) (by kernel_rfl) (fun _ _ _ h => h) (by rfl) ?_ hS6 ?_
          rotate_left
          · intro w' hSw; obtain ⟨a0, a1, a2, a3, a4, a5, a6, _⟩ := blk7 (Blk.below HBa.out hSw HBa.out.lt); obtain ⟨b0, b1, b2, b3, b4, b5, b6, _⟩ := blk7 (Blk.below HBb.out hSw HBb.out.lt); obtain ⟨c0, c1, c2, c3, c4, c5, c6, _⟩ := blk7 (Blk.below HBc.out hSw HBc.out.lt); obtain ⟨d0, d1, d2, d3, d4, d5, d6, _⟩ := blk7 (Blk.below HBd.out hSw HBd.out.lt); obtain ⟨x0, x1, x2, x3, x4, x5, x6, _⟩ := blk7 (Blk.below HBx.out hSw HBx.out.lt); obtain ⟨s0, s1, s2, _⟩ := blk3 (Blk.below HV.out hSw HV.out.lt); go_simp <;> with_reducible rfl
          simp only [Act.put, List.setIfInBounds_toArray, List.set_cons_zero, List.set_cons_succ]
          refine wpAnyH_yes (i := 23) (d := 76) (v := ?_) rfl rfl (by kernel_rfl) (by kernel_rfl) (by kernel_rfl) (fun _ _ _ h => h) (by rfl) ?_ hS6 ?_
          rotate_left
          · intro w' hSw; obtain ⟨a0, a1, a2, a3, a4, a5, a6, _⟩ := blk7 (Blk.below HBa.out hSw HBa.out.lt); obtain ⟨b0, b1, b2, b3, b4, b5, b6, _⟩ := blk7 (Blk.below HBb.out hSw HBb.out.lt); obtain ⟨c0, c1, c2, c3, c4, c5, c6, _⟩ := blk7 (Blk.below HBc.out hSw HBc.out.lt); obtain ⟨d0, d1, d2, d3, d4, d5, d6, _⟩ := blk7 (Blk.below HBd.out hSw HBd.out.lt); obtain ⟨x0, x1, x2, x3, x4, x5, x6, _⟩ := blk7 (Blk.below HBx.out hSw HBx.out.lt); obtain ⟨s0, s1, s2, _⟩ := blk3 (Blk.below HV.out hSw HV.out.lt); go_simp <;> with_reducible rfl
          simp only [Act.put, List.setIfInBounds_toArray, List.set_cons_zero, List.set_cons_succ]
          refine wpAnyH_yes (i := 24) (d := 77) (v := ?_) rfl rfl (by kernel_rfl) (by kernel_rfl) (by kernel_rfl) (fun _ _ _ h => h) (by rfl) ?_ hS6 ?_
          rotate_left
          · intro w' hSw; obtain ⟨a0, a1, a2, a3, a4, a5, a6, _⟩ := blk7 (Blk.below HBa.out hSw HBa.out.lt); obtain ⟨b0, b1, b2, b3, b4, b5, b6, _⟩ := blk7 (Blk.below HBb.out hSw HBb.out.lt); obtain ⟨c0, c1, c2, c3, c4, c5, c6, _⟩ := blk7 (Blk.below HBc.out hSw HBc.out.lt); obtain ⟨d0, d1, d2, d3, d4, d5, d6, _⟩ := blk7 (Blk.below HBd.out hSw HBd.out.lt); obtain ⟨x0, x1, x2, x3, x4, x5, x6, _⟩ := blk7 (Blk.below HBx.out hSw HBx.out.lt); obtain ⟨s0, s1, s2, _⟩ := blk3 (Blk.below HV.out hSw HV.out.lt); go_simp <;> with_reducible rfl
          simp only [Act.put, List.setIfInBounds_toArray, List.set_cons_zero, List.set_cons_succ]
          refine wpAnyH_yes (i := 25) (d := 78) (v := ?_) rfl rfl (by kernel_rfl) (by kernel_rfl) (by kernel_rfl) (fun _ _ _ h => h) (by rfl) ?_ hS6 ?_
          rotate_left
          · intro w' hSw; obtain ⟨a0, a1, a2, a3, a4, a5, a6, _⟩ := blk7 (Blk.below HBa.out hSw HBa.out.lt); obtain ⟨b0, b1, b2, b3, b4, b5, b6, _⟩ := blk7 (Blk.below HBb.out hSw HBb.out.lt); obtain ⟨c0, c1, c2, c3, c4, c5, c6, _⟩ := blk7 (Blk.below HBc.out hSw HBc.out.lt); obtain ⟨d0, d1, d2, d3, d4, d5, d6, _⟩ := blk7 (Blk.below HBd.out hSw HBd.out.lt); obtain ⟨x0, x1, x2, x3, x4, x5, x6, _⟩ := blk7 (Blk.below HBx.out hSw HBx.out.lt); obtain ⟨s0, s1, s2, _⟩ := blk3 (Blk.below HV.out hSw HV.out.lt); go_simp <;> with_reducible rfl
          simp only [Act.put, List.setIfInBounds_toArray, List.set_cons_zero, List.set_cons_succ]
          refine wpAnyH_yes (i := 26) (d := 79) (v := ?_) rfl rfl (by kernel_rfl) (by kernel_rfl) (by kernel_rfl) (fun _ _ _ h => h) (by rfl) ?_ hS6 ?_
          rotate_left
          · intro w' hSw; obtain ⟨a0, a1, a2, a3, a4, a5, a6, _⟩ := blk7 (Blk.below HBa.out hSw HBa.out.lt); obtain ⟨b0, b1, b2, b3, b4, b5, b6, _⟩ := blk7 (Blk.below HBb.out hSw HBb.out.lt); obtain ⟨c0, c1, c2, c3, c4, c5, c6, _⟩ := blk7 (Blk.below HBc.out hSw HBc.out.lt); obtain ⟨d0, d1, d2, d3, d4, d5, d6, _⟩ := blk7 (Blk.below HBd.out hSw HBd.out.lt); obtain ⟨x0, x1, x2, x3, x4, x5, x6, _⟩ := blk7 (Blk.below HBx.out hSw HBx.out.lt); obtain ⟨s0, s1, s2, _⟩ := blk3 (Blk.below HV.out hSw HV.out.lt); go_simp <;> with_reducible rfl
          simp only [Act.put, List.setIfInBounds_toArray, List.set_cons_zero, List.set_cons_succ]
          refine wpAnyH_yes (i := 28) (d := 81) (v := ?_) rfl rfl (by kernel_rfl) (by kernel_rfl) (by kernel_rfl) (fun _ _ _ h => h) (by rfl) ?_ hS6 ?_
          rotate_left
          · intro w' hSw; obtain ⟨a0, a1, a2, a3, a4, a5, a6, _⟩ := blk7 (Blk.below HBa.out hSw HBa.out.lt); obtain ⟨b0, b1, b2, b3, b4, b5, b6, _⟩ := blk7 (Blk.below HBb.out hSw HBb.out.lt); obtain ⟨c0, c1, c2, c3, c4, c5, c6, _⟩ := blk7 (Blk.below HBc.out hSw HBc.out.lt); obtain ⟨d0, d1, d2, d3, d4, d5, d6, _⟩ := blk7 (Blk.below HBd.out hSw HBd.out.lt); obtain ⟨x0, x1, x2, x3, x4, x5, x6, _⟩ := blk7 (Blk.below HBx.out hSw HBx.out.lt); obtain ⟨s0, s1, s2, _⟩ := blk3 (Blk.below HV.out hSw HV.out.lt); go_simp <;> with_reducible rfl
          simp only [Act.put, List.setIfInBounds_toArray, List.set_cons_zero, List.set_cons_succ]
          refine wpAnyH_yes (i := 29) (d := 82) (v := ?_) rfl rfl (by kernel_rfl) (by kernel_rfl) (by kernel_rfl) (fun _ _ _ h => h) (by rfl) ?_ hS6 ?_
          rotate_left
          · intro w' hSw; obtain ⟨a0, a1, a2, a3, a4, a5, a6, _⟩ := blk7 (Blk.below HBa.out hSw HBa.out.lt); obtain ⟨b0, b1, b2, b3, b4, b5, b6, _⟩ := blk7 (Blk.below HBb.out hSw HBb.out.lt); obtain ⟨c0, c1, c2, c3, c4, c5, c6, _⟩ := blk7 (Blk.below HBc.out hSw HBc.out.lt); obtain ⟨d0, d1, d2, d3, d4, d5, d6, _⟩ := blk7 (Blk.below HBd.out hSw HBd.out.lt); obtain ⟨x0, x1, x2, x3, x4, x5, x6, _⟩ := blk7 (Blk.below HBx.out hSw HBx.out.lt); obtain ⟨s0, s1, s2, _⟩ := blk3 (Blk.below HV.out hSw HV.out.lt); go_simp <;> with_reducible rfl
          simp only [Act.put, List.setIfInBounds_toArray, List.set_cons_zero, List.set_cons_succ]
          have hi64 := HBI.out
          refine wpAnyH_one (i := 27) (by kernel_rfl) rfl (by rfl) (fun Kc hKc => ?_)
          go_simp
          with_reducible refine (has_at (⟨aK, alo, ahi, af, ag, aq, ano⟩ : Sp) Ca.out Xa ad ae ⟨k, i, x⟩ z6 HLa.out (by omega) (by show x.length ≤ _; omega) hi64.1 hi64.2 (RdK.below (rdk_own' Oa.out) hS6) qh HQH.out).mono ?_
          rintro e z7 ⟨rfl, hg2⟩
          have hbb2 := hg2.below
          have hS7 := below_next hS6 (Nat.le_refl _) hbb2
          go_wp2_with fail
          refine hKc.out _ _ hS7 ?_
          clear hKc
          have HQH2 : Hid (has (⟨cK, clo, chi, cf, cg, cq, cno⟩ : Sp) ⟨k, i, x⟩ = qh) := by show _ = _; rw [ECA.out]; exact HQH.out
          refine wpAnyH_one (i := 30) (by kernel_rfl) rfl (by rfl) (fun Kc hKc => ?_)
          go_simp
          with_reducible refine (rhas_at (⟨cK, clo, chi, cf, cg, cq, cno⟩ : Sp) Cc.out Xc cd ce ⟨k, i, x⟩ z7 HLc.out (by omega) (by show x.length ≤ _; omega) hi64.1 hi64.2 (RdK.below (rdk_own' Oc.out) hS7) qh HQH2.out).mono ?_
          rintro e z8 ⟨rfl, hg3⟩
          have hbb3 := hg3.below
          have hS8 := below_next hS7 (Nat.le_refl _) hbb3
          go_wp2_with fail
          refine hKc.out _ _ hS8 ?_
          clear hKc
          refine wpAnyH_yes (i := 31) (d := 84) (v := ?_) rfl rfl (by kernel_rfl) (by kernel_rfl) (by kernel_rfl) (fun _ _ _ h => h) (by rfl) ?_ hS8 ?_
          rotate_left
          · intro w' hSw; obtain ⟨a0, a1, a2, a3, a4, a5, a6, _⟩ := blk7 (Blk.below HBa.out hSw HBa.out.lt); obtain ⟨b0, b1, b2, b3, b4, b5, b6, _⟩ := blk7 (Blk.below HBb.out hSw HBb.out.lt); obtain ⟨c0, c1, c2, c3, c4, c5, c6, _⟩ := blk7 (Blk.below HBc.out hSw HBc.out.lt); obtain ⟨d0, d1, d2, d3, d4, d5, d6, _⟩ := blk7 (Blk.below HBd.out hSw HBd.out.lt); obtain ⟨x0, x1, x2, x3, x4, x5, x6, _⟩ := blk7 (Blk.below HBx.out hSw HBx.out.lt); obtain ⟨s0, s1, s2, _⟩ := blk3 (Blk.below HV.out hSw HV.out.lt); go_simp <;> with_reducible rfl
          simp only [Act.put, List.setIfInBounds_toArray, List.set_cons_zero, List.set_cons_succ]
          refine wpAnyH_yes (i := 32) (d := 85) (v := ?_) rfl rfl (by kernel_rfl) (by kernel_rfl) (by kernel_rfl) (fun _ _ _ h => h) (by rfl) ?_ hS8 ?_
          rotate_left
          · intro w' hSw; obtain ⟨a0, a1, a2, a3, a4, a5, a6, _⟩ := blk7 (Blk.below HBa.out hSw HBa.out.lt); obtain ⟨b0, b1, b2, b3, b4, b5, b6, _⟩ := blk7 (Blk.below HBb.out hSw HBb.out.lt); obtain ⟨c0, c1, c2, c3, c4, c5, c6, _⟩ := blk7 (Blk.below HBc.out hSw HBc.out.lt); obtain ⟨d0, d1, d2, d3, d4, d5, d6, _⟩ := blk7 (Blk.below HBd.out hSw HBd.out.lt); obtain ⟨x0, x1, x2, x3, x4, x5, x6, _⟩ := blk7 (Blk.below HBx.out hSw HBx.out.lt); obtain ⟨s0, s1, s2, _⟩ := blk3 (Blk.below HV.out hSw HV.out.lt); go_simp <;> with_reducible rfl
          simp only [Act.put, List.setIfInBounds_toArray, List.set_cons_zero, List.set_cons_succ]
          refine wpAnyH_yes (i := 33) (d := 17) (v := ?_) rfl rfl (by kernel_rfl) (by kernel_rfl) (by kernel_rfl) (fun _ _ _ h => h) (by rfl) ?_ hS8 ?_
          rotate_left
          · intro w' hSw; obtain ⟨a0, a1, a2, a3, a4, a5, a6, _⟩ := blk7 (Blk.below HBa.out hSw HBa.out.lt); obtain ⟨b0, b1, b2, b3, b4, b5, b6, _⟩ := blk7 (Blk.below HBb.out hSw HBb.out.lt); obtain ⟨c0, c1, c2, c3, c4, c5, c6, _⟩ := blk7 (Blk.below HBc.out hSw HBc.out.lt); obtain ⟨d0, d1, d2, d3, d4, d5, d6, _⟩ := blk7 (Blk.below HBd.out hSw HBd.out.lt); obtain ⟨x0, x1, x2, x3, x4, x5, x6, _⟩ := blk7 (Blk.below HBx.out hSw HBx.out.lt); obtain ⟨s0, s1, s2, _⟩ := blk3 (Blk.below HV.out hSw HV.out.lt); go_simp <;> with_reducible rfl
          simp only [Act.put, List.setIfInBounds_toArray, List.set_cons_zero, List.set_cons_succ]
          refine wpAnyH_done (by kernel_rfl) ?_ _
          have hb := hS8
          replace HV := Lib.hid (Blk.below HV.out hb HV.out.lt)
          replace BB := Lib.hid (below_next BB.out (by have := BB.out.size; omega) hb)
          replace Oa := Lib.hid (OwnK.below Oa.out hb)
          replace HBa := Lib.hid (Blk.below HBa.out hb HBa.out.lt)
          replace Ob := Lib.hid (OwnK.below Ob.out hb)
          replace HBb := Lib.hid (Blk.below HBb.out hb HBb.out.lt)
          replace Oc := Lib.hid (OwnK.below Oc.out hb)
          replace HBc := Lib.hid (Blk.below HBc.out hb HBc.out.lt)
          replace Od := Lib.hid (OwnK.below Od.out hb)
          replace HBd := Lib.hid (Blk.below HBd.out hb HBd.out.lt)
          replace B8 := Lib.hid (below_next B8.out (by have := B8.out.size; omega) hb)
          replace Ox := Lib.hid (OwnK.below Ox.out hb)
          replace HBx := Lib.hid (Blk.below HBx.out hb HBx.out.lt)
          clear hb
          generalize z8 = wl at *
          go_wp2_with fail
          go_loopg [18] xd (fun gg s18 wr => ∃ (j : Nat) (xs : List Val), j ≤ xd ∧ xd - j ≤ gg ∧ s18 = .int .i64 (j : Int) ∧ Hid (xs.length = xd) ∧ Hid (OwnW wr w7.heap.size (.slice Xx xd xe) xs) ∧ Hid (Blk wr qx 29 #[.int .i64 xK, .int .i64 xlo, .int .i64 xhi, .string ⟨xf.toArray⟩, .string ⟨xg.toArray⟩, .bool xq, .slice Xx xd xe]) ∧ Hid (Below w7.heap.size w7 wr))
          case atStart => exact ⟨0, xno, Nat.zero_le _, by omega, rfl, HLx, Ox, HBx, B8⟩
          case round =>
            obtain ⟨j, xs, hj, hgg, rfl, HXS, OX, HBX, BX⟩ := hrel
            obtain ⟨x0, x1, x2, x3, x4, x5, x6, _⟩ := blk7 HBX.out
            have hlX := HBX.out.lt
            by_cases hlt : j < xd
            · have hj' : j < xs.length := by rw [HXS.out]; exact hlt
              obtain ⟨gx, hgA, hgb, hgl, hgf⟩ := here_v OX.out (by omega)
              subst hgA
              obtain ⟨_, _, e9, _, o0, o1, o2⟩ := RdW.at3 (rdk_own' OX.out) hj'
              injection e9 with e9
              injection e9 with e9a e9b _
              subst e9a; subst e9b
              rw [Nat.zero_add] at o0 o1 o2
              have u0 := hgf (j * 3)
              have u1 := hgf (j * 3 + 1)
              have u2 := hgf (j * 3 + 2)
              have w5 : (j : Int) < (xd : Int) := by omega
              go_wp2_with fail
              have hne : qx ≠ gx := blk_ne HBX.out OX.out (by decide)
              have OX2 : Hid (OwnW (((wr.setCell ⟨gx, j * 3, none⟩ (.int .i64 9)).setCell ⟨gx, j * 3 + 1, none⟩ (.int .i64 0)).setCell ⟨gx, j * 3 + 2, none⟩ (.string ⟨#[]⟩)) w7.heap.size (.slice (some ⟨gx, 0, none⟩) xd xe) (xs.set j ⟨9, 0, []⟩)) := OX.out.setV HXS.out j hlt ⟨9, 0, []⟩
              have HBX2 : Hid (Blk (((wr.setCell ⟨gx, j * 3, none⟩ (.int .i64 9)).setCell ⟨gx, j * 3 + 1, none⟩ (.int .i64 0)).setCell ⟨gx, j * 3 + 2, none⟩ (.string ⟨#[]⟩)) qx 29 #[.int .i64 xK, .int .i64 xlo, .int .i64 xhi, .string ⟨xf.toArray⟩, .string ⟨xg.toArray⟩, .bool xq, .slice (some ⟨gx, 0, none⟩) xd xe]) := ((Blk.far HBX.out (p := ⟨gx, j * 3, none⟩) hne _).far (p := ⟨gx, j * 3 + 1, none⟩) hne _).far (p := ⟨gx, j * 3 + 2, none⟩) hne _
              have BX2 : Hid (Below w7.heap.size w7 (((wr.setCell ⟨gx, j * 3, none⟩ (.int .i64 9)).setCell ⟨gx, j * 3 + 1, none⟩ (.int .i64 0)).setCell ⟨gx, j * 3 + 2, none⟩ (.string ⟨#[]⟩))) := below_set (below_set (below_set BX.out hgb) hgb) hgb
              have HXS2 : Hid ((xs.set j ⟨9, 0, []⟩).length = xd) := by show _ = _; rw [List.length_set]; exact HXS.out
              go_roundg (xd - (j + 1))
              case measure => omega
              case rel => exact ⟨j + 1, _, by omega, Nat.le_refl _, by go_num, HXS2, OX2, HBX2, BX2⟩
            · have hjx : j = xd := by omega
              have dj : decide ((j : Int) < (xd : Int)) = false := decide_eq_false (by omega)
              have dj' : decide (j < xd) = false := decide_eq_false (by omega)
              go_wp2_with fail
              clear hjx dj dj' x0 x1 x2 x3 x4 x5 x6 hlX
              refine wp_region_held_drew (S := fun w' => Below wr.heap.size wr w') (by kernel_rfl) (Below.refl _ _).drew (fun _ => ?_)
              have hS0 : Below wr.heap.size wr wr.drew := (Below.refl _ _).drew
              generalize wr.drew = z0 at *
              refine wpAnyH_yes (i := 0) (d := 98) (v := ?_) rfl rfl (by kernel_rfl) (by kernel_rfl) (by kernel_rfl) (fun _ _ _ h => h) (by rfl) ?_ hS0 ?_
              rotate_left
              · intro w' hSw; obtain ⟨a0, a1, a2, a3, a4, a5, a6, _⟩ := blk7 (Blk.below Ga.out (below_next BX.out (Nat.le_refl _) hSw) Ga.out.lt); obtain ⟨b0, b1, b2, b3, b4, b5, b6, _⟩ := blk7 (Blk.below Gb.out (below_next BX.out (Nat.le_refl _) hSw) Gb.out.lt); obtain ⟨c0, c1, c2, c3, c4, c5, c6, _⟩ := blk7 (Blk.below Gc.out (below_next BX.out (Nat.le_refl _) hSw) Gc.out.lt); obtain ⟨d0, d1, d2, d3, d4, d5, d6, _⟩ := blk7 (Blk.below Gd.out (below_next BX.out (Nat.le_refl _) hSw) Gd.out.lt); go_simp <;> with_reducible rfl
              simp only [Act.put, List.setIfInBounds_toArray, List.set_cons_zero, List.set_cons_succ]
              refine wpAnyH_yes (i := 1) (d := 99) (v := ?_) rfl rfl (by kernel_rfl) (by kernel_rfl) (by kernel_rfl) (fun _ _ _ h => h) (by rfl) ?_ hS0 ?_
              rotate_left
              · intro w' hSw; obtain ⟨a0, a1, a2, a3, a4, a5, a6, _⟩ := blk7 (Blk.below Ga.out (below_next BX.out (Nat.le_refl _) hSw) Ga.out.lt); obtain ⟨b0, b1, b2, b3, b4, b5, b6, _⟩ := blk7 (Blk.below Gb.out (below_next BX.out (Nat.le_refl _) hSw) Gb.out.lt); obtain ⟨c0, c1, c2, c3, c4, c5, c6, _⟩ := blk7 (Blk.below Gc.out (below_next BX.out (Nat.le_refl _) hSw) Gc.out.lt); obtain ⟨d0, d1, d2, d3, d4, d5, d6, _⟩ := blk7 (Blk.below Gd.out (below_next BX.out (Nat.le_refl _) hSw) Gd.out.lt); go_simp <;> with_reducible rfl
              simp only [Act.put, List.setIfInBounds_toArray, List.set_cons_zero, List.set_cons_succ]
              refine wpAnyH_yes (i := 2) (d := 100) (v := ?_) rfl rfl (by kernel_rfl) (by kernel_rfl) (by kernel_rfl) (fun _ _ _ h => h) (by rfl) ?_ hS0 ?_
              rotate_left
              · intro w' hSw; obtain ⟨a0, a1, a2, a3, a4, a5, a6, _⟩ := blk7 (Blk.below Ga.out (below_next BX.out (Nat.le_refl _) hSw) Ga.out.lt); obtain ⟨b0, b1, b2, b3, b4, b5, b6, _⟩ := blk7 (Blk.below Gb.out (below_next BX.out (Nat.le_refl _) hSw) Gb.out.lt); obtain ⟨c0, c1, c2, c3, c4, c5, c6, _⟩ := blk7 (Blk.below Gc.out (below_next BX.out (Nat.le_refl _) hSw) Gc.out.lt); obtain ⟨d0, d1, d2, d3, d4, d5, d6, _⟩ := blk7 (Blk.below Gd.out (below_next BX.out (Nat.le_refl _) hSw) Gd.out.lt); go_simp <;> with_reducible rfl
              simp only [Act.put, List.setIfInBounds_toArray, List.set_cons_zero, List.set_cons_succ]
              refine wpAnyH_yes (i := 3) (d := 101) (v := ?_) rfl rfl (by kernel_rfl) (by kernel_rfl) (by kernel_rfl) (fun _ _ _ h => h) (by rfl) ?_ hS0 ?_
              rotate_left
              · intro w' hSw; obtain ⟨a0, a1, a2, a3, a4, a5, a6, _⟩ := blk7 (Blk.below Ga.out (below_next BX.out (Nat.le_refl _) hSw) Ga.out.lt); obtain ⟨b0, b1, b2, b3, b4, b5, b6, _⟩ := blk7 (Blk.below Gb.out (below_next BX.out (Nat.le_refl _) hSw) Gb.out.lt); obtain ⟨c0, c1, c2, c3, c4, c5, c6, _⟩ := blk7 (Blk.below Gc.out (below_next BX.out (Nat.le_refl _) hSw) Gc.out.lt); obtain ⟨d0, d1, d2, d3, d4, d5, d6, _⟩ := blk7 (Blk.below Gd.out (below_next BX.out (Nat.le_refl _) hSw) Gd.out.lt); go_simp <;> with_reducible rfl
              simp only [Act.put, List.setIfInBounds_toArray, List.set_cons_zero, List.set_cons_succ]
              refine wpAnyH_yes (i := 4) (d := 102) (v := ?_) rfl rfl (by kernel_rfl) (by kernel_rfl) (by kernel_rfl) (fun _ _ _ h => h) (by rfl) ?_ hS0 ?_
              rotate_left
              · intro w' hSw; obtain ⟨a0, a1, a2, a3, a4, a5, a6, _⟩ := blk7 (Blk.below Ga.out (below_next BX.out (Nat.le_refl _) hSw) Ga.out.lt); obtain ⟨b0, b1, b2, b3, b4, b5, b6, _⟩ := blk7 (Blk.below Gb.out (below_next BX.out (Nat.le_refl _) hSw) Gb.out.lt); obtain ⟨c0, c1, c2, c3, c4, c5, c6, _⟩ := blk7 (Blk.below Gc.out (below_next BX.out (Nat.le_refl _) hSw) Gc.out.lt); obtain ⟨d0, d1, d2, d3, d4, d5, d6, _⟩ := blk7 (Blk.below Gd.out (below_next BX.out (Nat.le_refl _) hSw) Gd.out.lt); go_simp <;> with_reducible rfl
              simp only [Act.put, List.setIfInBounds_toArray, List.set_cons_zero, List.set_cons_succ]
              refine wpAnyH_yes (i := 5) (d := 103) (v := ?_) rfl rfl (by kernel_rfl) (by kernel_rfl) (by kernel_rfl) (fun _ _ _ h => h) (by rfl) ?_ hS0 ?_
              rotate_left
              · intro w' hSw; obtain ⟨a0, a1, a2, a3, a4, a5, a6, _⟩ := blk7 (Blk.below Ga.out (below_next BX.out (Nat.le_refl _) hSw) Ga.out.lt); obtain ⟨b0, b1, b2, b3, b4, b5, b6, _⟩ := blk7 (Blk.below Gb.out (below_next BX.out (Nat.le_refl _) hSw) Gb.out.lt); obtain ⟨c0, c1, c2, c3, c4, c5, c6, _⟩ := blk7 (Blk.below Gc.out (below_next BX.out (Nat.le_refl _) hSw) Gc.out.lt); obtain ⟨d0, d1, d2, d3, d4, d5, d6, _⟩ := blk7 (Blk.below Gd.out (below_next BX.out (Nat.le_refl _) hSw) Gd.out.lt); go_simp <;> with_reducible rfl
              simp only [Act.put, List.setIfInBounds_toArray, List.set_cons_zero, List.set_cons_succ]
              refine wpAnyH_yes (i := 6) (d := 104) (v := ?_) rfl rfl (by kernel_rfl) (by kernel_rfl) (by kernel_rfl) (fun _ _ _ h => h) (by rfl) ?_ hS0 ?_
              rotate_left
              · intro w' hSw; obtain ⟨a0, a1, a2, a3, a4, a5, a6, _⟩ := blk7 (Blk.below Ga.out (below_next BX.out (Nat.le_refl _) hSw) Ga.out.lt); obtain ⟨b0, b1, b2, b3, b4, b5, b6, _⟩ := blk7 (Blk.below Gb.out (below_next BX.out (Nat.le_refl _) hSw) Gb.out.lt); obtain ⟨c0, c1, c2, c3, c4, c5, c6, _⟩ := blk7 (Blk.below Gc.out (below_next BX.out (Nat.le_refl _) hSw) Gc.out.lt); obtain ⟨d0, d1, d2, d3, d4, d5, d6, _⟩ := blk7 (Blk.below Gd.out (below_next BX.out (Nat.le_refl _) hSw) Gd.out.lt); go_simp <;> with_reducible rfl
              simp only [Act.put, List.setIfInBounds_toArray, List.set_cons_zero, List.set_cons_succ]
              have hsm : decide ((⟨aK, alo, ahi, af, ag, aq, ano⟩ : Sp) = (⟨cK, clo, chi, cf, cg, cq, cno⟩ : Sp)) = true := decide_eq_true ECA.out.symm
              refine wpAnyH_one (i := 7) (by kernel_rfl) rfl (by rfl) (fun Kc hKc => ?_)
              go_simp
              with_reducible refine (refSame_is aK alo ahi af ag aq Xa ad ae cK clo chi cf cg cq Xc cd ce z0 ano cno HLa.out (by omega) HLc.out (by omega) (RdK.below (rdk_own' Pa.out) (below_next BX.out (Nat.le_refl _) hS0)) (RdK.below (rdk_own' Pc.out) (below_next BX.out (Nat.le_refl _) hS0)) true hsm).mono ?_
              rintro e z1 ⟨rfl, hg⟩
              clear hsm
              have hbb := hg.below
              have hS1 := below_next hS0 (Nat.le_refl _) hbb
              go_wp2_with fail
              refine hKc.out _ _ hS1 ?_
              clear hKc
              clear hg
              refine wpAnyH_yes (i := 8) (d := 106) (v := ?_) rfl rfl (by kernel_rfl) (by kernel_rfl) (by kernel_rfl) (fun _ _ _ h => h) (by rfl) ?_ hS1 ?_
              rotate_left
              · intro w' hSw; obtain ⟨a0, a1, a2, a3, a4, a5, a6, _⟩ := blk7 (Blk.below Ga.out (below_next BX.out (Nat.le_refl _) hSw) Ga.out.lt); obtain ⟨b0, b1, b2, b3, b4, b5, b6, _⟩ := blk7 (Blk.below Gb.out (below_next BX.out (Nat.le_refl _) hSw) Gb.out.lt); obtain ⟨c0, c1, c2, c3, c4, c5, c6, _⟩ := blk7 (Blk.below Gc.out (below_next BX.out (Nat.le_refl _) hSw) Gc.out.lt); obtain ⟨d0, d1, d2, d3, d4, d5, d6, _⟩ := blk7 (Blk.below Gd.out (below_next BX.out (Nat.le_refl _) hSw) Gd.out.lt); go_simp <;> with_reducible rfl
              simp only [Act.put, List.setIfInBounds_toArray, List.set_cons_zero, List.set_cons_succ]
              refine wpAnyH_yes (i := 9) (d := 107) (v := ?_) rfl rfl (by kernel_rfl) (by kernel_rfl) (by kernel_rfl) (fun _ _ _ h => h) (by rfl) ?_ hS1 ?_
              rotate_left
              · intro w' hSw; obtain ⟨a0, a1, a2, a3, a4, a5, a6, _⟩ := blk7 (Blk.below Ga.out (below_next BX.out (Nat.le_refl _) hSw) Ga.out.lt); obtain ⟨b0, b1, b2, b3, b4, b5, b6, _⟩ := blk7 (Blk.below Gb.out (below_next BX.out (Nat.le_refl _) hSw) Gb.out.lt); obtain ⟨c0, c1, c2, c3, c4, c5, c6, _⟩ := blk7 (Blk.below Gc.out (below_next BX.out (Nat.le_refl _) hSw) Gc.out.lt); obtain ⟨d0, d1, d2, d3, d4, d5, d6, _⟩ := blk7 (Blk.below Gd.out (below_next BX.out (Nat.le_refl _) hSw) Gd.out.lt); go_simp <;> with_reducible rfl
              simp only [Act.put, List.setIfInBounds_toArray, List.set_cons_zero, List.set_cons_succ]
              refine wpAnyH_yes (i := 10) (d := 108) (v := ?_) rfl rfl (by kernel_rfl) (by kernel_rfl) (by kernel_rfl) (fun _ _ _ h => h) (by rfl) ?_ hS1 ?_
              rotate_left
              · intro w' hSw; obtain ⟨a0, a1, a2, a3, a4, a5, a6, _⟩ := blk7 (Blk.below Ga.out (below_next BX.out (Nat.le_refl _) hSw) Ga.out.lt); obtain ⟨b0, b1, b2, b3, b4, b5, b6, _⟩ := blk7 (Blk.below Gb.out (below_next BX.out (Nat.le_refl _) hSw) Gb.out.lt); obtain ⟨c0, c1, c2, c3, c4, c5, c6, _⟩ := blk7 (Blk.below Gc.out (below_next BX.out (Nat.le_refl _) hSw) Gc.out.lt); obtain ⟨d0, d1, d2, d3, d4, d5, d6, _⟩ := blk7 (Blk.below Gd.out (below_next BX.out (Nat.le_refl _) hSw) Gd.out.lt); go_simp <;> with_reducible rfl
              simp only [Act.put, List.setIfInBounds_toArray, List.set_cons_zero, List.set_cons_succ]
              refine wpAnyH_yes (i := 11) (d := 109) (v := ?_) rfl rfl (by kernel_rfl) (by kernel_rfl) (by kernel_rfl) (fun _ _ _ h => h) (by rfl) ?_ hS1 ?_
              rotate_left
              · intro w' hSw; obtain ⟨a0, a1, a2, a3, a4, a5, a6, _⟩ := blk7 (Blk.below Ga.out (below_next BX.out (Nat.le_refl _) hSw) Ga.out.lt); obtain ⟨b0, b1, b2, b3, b4, b5, b6, _⟩ := blk7 (Blk.below Gb.out (below_next BX.out (Nat.le_refl _) hSw) Gb.out.lt); obtain ⟨c0, c1, c2, c3, c4, c5, c6, _⟩ := blk7 (Blk.below Gc.out (below_next BX.out (Nat.le_refl _) hSw) Gc.out.lt); obtain ⟨d0, d1, d2, d3, d4, d5, d6, _⟩ := blk7 (Blk.below Gd.out (below_next BX.out (Nat.le_refl _) hSw) Gd.out.lt); go_simp <;> with_reducible rfl
              simp only [Act.put, List.setIfInBounds_toArray, List.set_cons_zero, List.set_cons_succ]
              have hsm : decide ((⟨bK, blo, bhi, bf, bg, bq, bno⟩ : Sp) = (⟨dK, dlo, dhi, df, dg, dq, dno⟩ : Sp)) = true := decide_eq_true EDB.out.symm
              refine wpAnyH_one (i := 12) (by kernel_rfl) rfl (by rfl) (fun Kc hKc => ?_)
              go_simp
              with_reducible refine (refSame_is bK blo bhi bf bg bq Xb bd be dK dlo dhi df dg dq Xd dd de z1 bno dno HLb.out (by omega) HLd.out (by omega) (RdK.below (rdk_own' Pb.out) (below_next BX.out (Nat.le_refl _) hS1)) (RdK.below (rdk_own' Pd.out) (below_next BX.out (Nat.le_refl _) hS1)) true hsm).mono ?_
              rintro e z2 ⟨rfl, hg⟩
              clear hsm
              have hbb := hg.below
              have hS2 := below_next hS1 (Nat.le_refl _) hbb
              go_wp2_with fail
              refine hKc.out _ _ hS2 ?_
              clear hKc
              clear hg
              refine wpAnyH_yes (i := 13) (d := 111) (v := ?_) rfl rfl (by kernel_rfl) (by kernel_rfl) (by kernel_rfl) (fun _ _ _ h => h) (by rfl) ?_ hS2 ?_
              rotate_left
              · intro w' hSw; obtain ⟨a0, a1, a2, a3, a4, a5, a6, _⟩ := blk7 (Blk.below Ga.out (below_next BX.out (Nat.le_refl _) hSw) Ga.out.lt); obtain ⟨b0, b1, b2, b3, b4, b5, b6, _⟩ := blk7 (Blk.below Gb.out (below_next BX.out (Nat.le_refl _) hSw) Gb.out.lt); obtain ⟨c0, c1, c2, c3, c4, c5, c6, _⟩ := blk7 (Blk.below Gc.out (below_next BX.out (Nat.le_refl _) hSw) Gc.out.lt); obtain ⟨d0, d1, d2, d3, d4, d5, d6, _⟩ := blk7 (Blk.below Gd.out (below_next BX.out (Nat.le_refl _) hSw) Gd.out.lt); go_simp <;> with_reducible rfl
              simp only [Act.put, List.setIfInBounds_toArray, List.set_cons_zero, List.set_cons_succ]
              refine wpAnyH_yes (i := 14) (d := 112) (v := ?_) rfl rfl (by kernel_rfl) (by kernel_rfl) (by kernel_rfl) (fun _ _ _ h => h) (by rfl) ?_ hS2 ?_
              rotate_left
              · intro w' hSw; obtain ⟨a0, a1, a2, a3, a4, a5, a6, _⟩ := blk7 (Blk.below Ga.out (below_next BX.out (Nat.le_refl _) hSw) Ga.out.lt); obtain ⟨b0, b1, b2, b3, b4, b5, b6, _⟩ := blk7 (Blk.below Gb.out (below_next BX.out (Nat.le_refl _) hSw) Gb.out.lt); obtain ⟨c0, c1, c2, c3, c4, c5, c6, _⟩ := blk7 (Blk.below Gc.out (below_next BX.out (Nat.le_refl _) hSw) Gc.out.lt); obtain ⟨d0, d1, d2, d3, d4, d5, d6, _⟩ := blk7 (Blk.below Gd.out (below_next BX.out (Nat.le_refl _) hSw) Gd.out.lt); go_simp <;> with_reducible rfl
              simp only [Act.put, List.setIfInBounds_toArray, List.set_cons_zero, List.set_cons_succ]
              refine wpAnyH_yes (i := 15) (d := 113) (v := ?_) rfl rfl (by kernel_rfl) (by kernel_rfl) (by kernel_rfl) (fun _ _ _ h => h) (by rfl) ?_ hS2 ?_
              rotate_left
              · intro w' hSw; obtain ⟨a0, a1, a2, a3, a4, a5, a6, _⟩ := blk7 (Blk.below Ga.out (below_next BX.out (Nat.le_refl _) hSw) Ga.out.lt); obtain ⟨b0, b1, b2, b3, b4, b5, b6, _⟩ := blk7 (Blk.below Gb.out (below_next BX.out (Nat.le_refl _) hSw) Gb.out.lt); obtain ⟨c0, c1, c2, c3, c4, c5, c6, _⟩ := blk7 (Blk.below Gc.out (below_next BX.out (Nat.le_refl _) hSw) Gc.out.lt); obtain ⟨d0, d1, d2, d3, d4, d5, d6, _⟩ := blk7 (Blk.below Gd.out (below_next BX.out (Nat.le_refl _) hSw) Gd.out.lt); go_simp <;> with_reducible rfl
              simp only [Act.put, List.setIfInBounds_toArray, List.set_cons_zero, List.set_cons_succ]
              refine wpAnyH_yes (i := 16) (d := 114) (v := ?_) rfl rfl (by kernel_rfl) (by kernel_rfl) (by kernel_rfl) (fun _ _ _ h => h) (by rfl) ?_ hS2 ?_
              rotate_left
              · intro w' hSw; obtain ⟨a0, a1, a2, a3, a4, a5, a6, _⟩ := blk7 (Blk.below Ga.out (below_next BX.out (Nat.le_refl _) hSw) Ga.out.lt); obtain ⟨b0, b1, b2, b3, b4, b5, b6, _⟩ := blk7 (Blk.below Gb.out (below_next BX.out (Nat.le_refl _) hSw) Gb.out.lt); obtain ⟨c0, c1, c2, c3, c4, c5, c6, _⟩ := blk7 (Blk.below Gc.out (below_next BX.out (Nat.le_refl _) hSw) Gc.out.lt); obtain ⟨d0, d1, d2, d3, d4, d5, d6, _⟩ := blk7 (Blk.below Gd.out (below_next BX.out (Nat.le_refl _) hSw) Gd.out.lt); go_simp <;> with_reducible rfl
              simp only [Act.put, List.setIfInBounds_toArray, List.set_cons_zero, List.set_cons_succ]
              refine wpAnyH_yes (i := 18) (d := 116) (v := ?_) rfl rfl (by kernel_rfl) (by kernel_rfl) (by kernel_rfl) (fun _ _ _ h => h) (by rfl) ?_ hS2 ?_
              rotate_left
              · intro w' hSw; obtain ⟨a0, a1, a2, a3, a4, a5, a6, _⟩ := blk7 (Blk.below Ga.out (below_next BX.out (Nat.le_refl _) hSw) Ga.out.lt); obtain ⟨b0, b1, b2, b3, b4, b5, b6, _⟩ := blk7 (Blk.below Gb.out (below_next BX.out (Nat.le_refl _) hSw) Gb.out.lt); obtain ⟨c0, c1, c2, c3, c4, c5, c6, _⟩ := blk7 (Blk.below Gc.out (below_next BX.out (Nat.le_refl _) hSw) Gc.out.lt); obtain ⟨d0, d1, d2, d3, d4, d5, d6, _⟩ := blk7 (Blk.below Gd.out (below_next BX.out (Nat.le_refl _) hSw) Gd.out.lt); go_simp <;> with_reducible rfl
              simp only [Act.put, List.setIfInBounds_toArray, List.set_cons_zero, List.set_cons_succ]
              refine wpAnyH_yes (i := 19) (d := 117) (v := ?_) rfl rfl (by kernel_rfl) (by kernel_rfl) (by kernel_rfl) (fun _ _ _ h => h) (by rfl) ?_ hS2 ?_
              rotate_left
              · intro w' hSw; obtain ⟨a0, a1, a2, a3, a4, a5, a6, _⟩ := blk7 (Blk.below Ga.out (below_next BX.out (Nat.le_refl _) hSw) Ga.out.lt); obtain ⟨b0, b1, b2, b3, b4, b5, b6, _⟩ := blk7 (Blk.below Gb.out (below_next BX.out (Nat.le_refl _) hSw) Gb.out.lt); obtain ⟨c0, c1, c2, c3, c4, c5, c6, _⟩ := blk7 (Blk.below Gc.out (below_next BX.out (Nat.le_refl _) hSw) Gc.out.lt); obtain ⟨d0, d1, d2, d3, d4, d5, d6, _⟩ := blk7 (Blk.below Gd.out (below_next BX.out (Nat.le_refl _) hSw) Gd.out.lt); go_simp <;> with_reducible rfl
              simp only [Act.put, List.setIfInBounds_toArray, List.set_cons_zero, List.set_cons_succ]
              refine wpAnyH_one (i := 17) (by kernel_rfl) rfl (by rfl) (fun Kc hKc => ?_)
              go_simp
              with_reducible refine (preds_at nm (⟨aK, alo, ahi, af, ag, aq, ano⟩ : Sp) Ca.out Xa ad ae z2 HLa.out (by omega) (RdK.below (rdk_own' Pa.out) (below_next BX.out (Nat.le_refl _) hS2)) (by omega) _ rfl).mono ?_
              rintro e z3 ⟨v1, rfl, hov1, hbb⟩
              obtain ⟨Y1, e1x, hv1, hd1, hr1⟩ := OwnK.form hov1 rfl
              subst hv1
              have hS3 := below_next hS2 (Nat.le_refl _) hbb
              go_wp2_with fail
              refine hKc.out _ _ hS3 ?_
              clear hKc
              refine wpAnyH_one (i := 20) (by kernel_rfl) rfl (by rfl) (fun Kc hKc => ?_)
              go_simp
              with_reducible refine (rprs_at nm (⟨cK, clo, chi, cf, cg, cq, cno⟩ : Sp) Cc.out Xc cd ce HLc.out (by omega) z3 (RdK.below (rdk_own' Pc.out) (below_next BX.out (Nat.le_refl _) hS3))).mono ?_
              rintro e z4 ⟨v2, rfl, hov2, hbb2⟩
              obtain ⟨Y2, e2x, hv2, hd2, hr2⟩ := OwnK.form hov2 rfl
              subst hv2
              have hr1b := RdK.below hr1 hbb2
              have hS4 := below_next hS3 (Nat.le_refl _) hbb2
              go_wp2_with fail
              refine hKc.out _ _ hS4 ?_
              clear hKc
              have hpe : decide (prs nm (⟨aK, alo, ahi, af, ag, aq, ano⟩ : Sp) = prs nm (⟨cK, clo, chi, cf, cg, cq, cno⟩ : Sp)) = true := decide_eq_true (by rw [ECA.out])
              have hpl1 := prs_len9 nm (⟨aK, alo, ahi, af, ag, aq, ano⟩ : Sp)
              have hpl2 := prs_len9 nm (⟨cK, clo, chi, cf, cg, cq, cno⟩ : Sp)
              dsimp only at hpl1 hpl2
              have hla9 := HLa.out
              have hlc9 := HLc.out
              refine wpAnyH_one (i := 21) (by kernel_rfl) rfl (by rfl) (fun Kc hKc => ?_)
              go_simp
              with_reducible refine (samePs_at Y1 (prs nm (⟨aK, alo, ahi, af, ag, aq, ano⟩ : Sp)) _ e1x rfl (by omega) Y2 (prs nm (⟨cK, clo, chi, cf, cg, cq, cno⟩ : Sp)) _ e2x rfl (by omega) z4 hr1b hr2 true hpe).mono ?_
              rintro e z5 ⟨rfl, hg⟩
              have hbb3 := hg.below
              have hS5 := below_next hS4 (Nat.le_refl _) hbb3
              go_wp2_with fail
              refine hKc.out _ _ hS5 ?_
              clear hKc
              refine wpAnyH_yes (i := 22) (d := 120) (v := ?_) rfl rfl (by kernel_rfl) (by kernel_rfl) (by kernel_rfl) (fun _ _ _ h => h) (by rfl) ?_ hS5 ?_
              rotate_left
              · intro w' hSw; obtain ⟨a0, a1, a2, a3, a4, a5, a6, _⟩ := blk7 (Blk.below Ga.out (below_next BX.out (Nat.le_refl _) hSw) Ga.out.lt); obtain ⟨b0, b1, b2, b3, b4, b5, b6, _⟩ := blk7 (Blk.below Gb.out (below_next BX.out (Nat.le_refl _) hSw) Gb.out.lt); obtain ⟨c0, c1, c2, c3, c4, c5, c6, _⟩ := blk7 (Blk.below Gc.out (below_next BX.out (Nat.le_refl _) hSw) Gc.out.lt); obtain ⟨d0, d1, d2, d3, d4, d5, d6, _⟩ := blk7 (Blk.below Gd.out (below_next BX.out (Nat.le_refl _) hSw) Gd.out.lt); go_simp <;> with_reducible rfl
              simp only [Act.put, List.setIfInBounds_toArray, List.set_cons_zero, List.set_cons_succ]
              refine wpAnyH_yes (i := 23) (d := 8) (v := ?_) rfl rfl (by kernel_rfl) (by kernel_rfl) (by kernel_rfl) (fun _ _ _ h => h) (by rfl) ?_ hS5 ?_
              rotate_left
              · intro w' hSw; obtain ⟨a0, a1, a2, a3, a4, a5, a6, _⟩ := blk7 (Blk.below Ga.out (below_next BX.out (Nat.le_refl _) hSw) Ga.out.lt); obtain ⟨b0, b1, b2, b3, b4, b5, b6, _⟩ := blk7 (Blk.below Gb.out (below_next BX.out (Nat.le_refl _) hSw) Gb.out.lt); obtain ⟨c0, c1, c2, c3, c4, c5, c6, _⟩ := blk7 (Blk.below Gc.out (below_next BX.out (Nat.le_refl _) hSw) Gc.out.lt); obtain ⟨d0, d1, d2, d3, d4, d5, d6, _⟩ := blk7 (Blk.below Gd.out (below_next BX.out (Nat.le_refl _) hSw) Gd.out.lt); go_simp <;> with_reducible rfl
              simp only [Act.put, List.setIfInBounds_toArray, List.set_cons_zero, List.set_cons_succ]
              refine wpAnyH_done (by kernel_rfl) ?_ _
              go_wp2_with fail
              go_ret
              exact ⟨rfl, below_next BB8.out (Nat.le_refl _) (below_next BX.out (Nat.le_refl _) hS5)⟩

/-! ### The row's step. -/
namespace spanReckons
theorem own : ownKnob Try.prog.godebug = none := by kernel_rfl
theorem laidOut : laidOutB Try.prog = true := by kernel_rfl
set_option linter.unusedVariables false in
set_option maxRecDepth 100000 in
theorem lifted (os : Os) (started : os.Started) (H : Type) (enc : TypeId × Value → H) :
    ReturnsInHanded {} Try.checked os 3 .any (Rows.spanReckonsSpec.pre6 enc Try.prog Try.f3 Rows.spanReckonsRow.domain false) (Rows.spanReckonsSpec.post enc Try.prog Try.f3 false true false false) := by
  refine returnsInHanded_of_change_sized (C := Try.checked) own started (by kernel_rfl) Try.func3
    (ChangeSpec.witness6 (enc := enc) (C := Try.checked) false ⟨#[], #[.slice none 0 0, .slice none 0 0, .agg #[.int .i64 0, .int .i64 0, .string ⟨#[]⟩], .string ⟨#[]⟩], []⟩ 8 (by kernel_rfl) (by kernel_rfl) (by kernel_rfl) (by kernel_rfl)) ?_
  intro W base args ds gs before hval0 hW hcnd hsz0 _
  have hval : ∀ (j : Nat) t v, Try.f3.params[j]? = some t → args[j]? = some v → Value.okWide Try.prog W .any base t v := hval0
  have hsz : (DataW.weightsEach Try.prog (Try.f3.params.toList ++ Rows.spanReckonsSpec.plain.varTypes Try.prog) (ds ++ gs)).all (· ≤ reachBytes) = true := hsz0
  have hW' := hW
  obtain ⟨p, q, hA0, hV, rfl, hfz, hnd⟩ := hW
  have hA : DataW.TrodAll enc Try.prog W 0 (fun _ => true) true Try.f3.params.toList args.toList ds p := hA0
  rw [Try.params3] at hA hval hsz
  obtain ⟨v0, vs0, d0, ds0, p0, q0, hargs, rfl, rfl, h0, r0⟩ := trodAll_cons hA
  obtain ⟨v1, vs1, d1, ds1, p1, q1, rfl, rfl, rfl, h1, r1⟩ := trodAll_cons r0
  obtain ⟨v2, vs2, d2, ds2, p2, q2, rfl, rfl, rfl, h2, r2⟩ := trodAll_cons r1
  obtain ⟨v3, vs3, d3, ds3, p3, q3, rfl, rfl, rfl, h3, r3⟩ := trodAll_cons r2
  obtain ⟨rfl, rfl, rfl⟩ := trodAll_nil r3
  obtain rfl : args = #[v0, v1, v2, v3] := by cases args; simp_all
  obtain ⟨rfl, rfl⟩ := trodVars_none hV
  obtain ⟨a0, len0, cap0, rfl⟩ := okWide_slice Try.underlying22 (hval 0 22 v0 rfl rfl)
  have k0 := h0
  have lt0 : ∀ x ∈ p0, x.block < W.heap.size := by obtain ⟨m, hm⟩ := k0; exact DataW.trod_lt m _ _ _ hm
  obtain ⟨es0, hl0, hc0, hm0, rd0, hw0⟩ := open_preds_of Try.underlying22 Try.underlying38 (by kernel_rfl) ⟨rfl, rfl, by kernel_rfl⟩ ⟨rfl, rfl, by kernel_rfl⟩ ⟨rfl, rfl, by kernel_rfl⟩ Try.underlying9 Try.underlying3 Try.underlying24 ⟨rfl, rfl, by kernel_rfl⟩ ⟨rfl, rfl, by kernel_rfl⟩ ⟨rfl, rfl, by kernel_rfl⟩ Try.underlying3 Try.underlying3 Try.underlying9 k0
  obtain ⟨a1, len1, cap1, rfl⟩ := okWide_slice Try.underlying22 (hval 1 22 v1 rfl rfl)
  have k1 := h1
  have lt1 : ∀ x ∈ p1, x.block < W.heap.size := by obtain ⟨m, hm⟩ := k1; exact DataW.trod_lt m _ _ _ hm
  obtain ⟨es1, hl1, hc1, hm1, rd1, hw1⟩ := open_preds_of Try.underlying22 Try.underlying38 (by kernel_rfl) ⟨rfl, rfl, by kernel_rfl⟩ ⟨rfl, rfl, by kernel_rfl⟩ ⟨rfl, rfl, by kernel_rfl⟩ Try.underlying9 Try.underlying3 Try.underlying24 ⟨rfl, rfl, by kernel_rfl⟩ ⟨rfl, rfl, by kernel_rfl⟩ ⟨rfl, rfl, by kernel_rfl⟩ Try.underlying3 Try.underlying3 Try.underlying9 k1
  obtain ⟨kk2, ii2, ss2, rfl, wk2, wi2, ws2⟩ := open_val_of Try.underlying24 (by kernel_rfl) (by kernel_rfl) Try.underlying3 Try.underlying3 Try.underlying9 (hval 2 24 v2 rfl rfl) h2
  have k2 := h2
  have lt2 : ∀ x ∈ p2, x.block < W.heap.size := by obtain ⟨m, hm⟩ := k2; exact DataW.trod_lt m _ _ _ hm
  obtain ⟨⟨⟨a3⟩⟩, rfl, rfl, rfl, w3⟩ := Go.ChangeMaps.open_string Try.underlying9 (hval 3 9 v3 rfl rfl) h3
  clear hA0 hval0
  refine (walk_SpanReckons W a0 es0 len0 cap0 hl0 hc0 hm0 rd0 hw0 a1 es1 len1 cap1 hl1 hc1 hm1 rd1 hw1 kk2 ii2 ss2 wk2 wi2 ws2 a3 w3).mono fun e W' ⟨he, bel⟩ => ?_
  subst he
  exact ⟨_, rfl, _, _, _, [], _, [], hW', trodAll_mk1 (shut_bool Try.underlying4 _), (trodAll_cons_mk (Below.trod laidOut (by kernel_rfl) (of_decide_eq_true (by kernel_rfl)) k0 bel lt0) (trodAll_cons_mk (Below.trod laidOut (by kernel_rfl) (of_decide_eq_true (by kernel_rfl)) k1 bel lt1) (trodAll_cons_mk (Below.trod laidOut (by kernel_rfl) (of_decide_eq_true (by kernel_rfl)) k2 bel lt2) (trodAll_cons_mk (Go.ChangeMaps.shut_string Try.underlying9 w3) trodAll_mk0)))), rfl, bel.frame _, fun h => by cases h⟩
theorem over : Rows.spanReckonsRow.holds Try.pinned (OpenSpec.ofChange Rows.spanReckonsSpec) :=
  OpenClaim.holds_of_wide 3 Try.f3 rfl rfl rfl rfl rfl rfl rfl ⟨rfl, rfl, rfl, rfl, rfl⟩ rfl rfl rfl rfl rfl (by kernel_rfl) Try.func3 (by kernel_rfl)
    (of_decide_eq_true (by kernel_rfl)) (by unfold Func.isWrapper; first | (rw [if_pos (by decide +kernel)]; kernel_rfl) | (rw [if_neg (by decide +kernel)]; exact ⟨rfl, rfl⟩))
    (fun os started H enc _ => lifted os started H enc)
end spanReckons
/-- THE STATEMENT. -/
theorem spanReckons_holds : Rows.SpanReckonsSaid := spanReckons.over
#print axioms spanReckons_holds
end Go.Proofs.Ytoffnfooeojhnaa
