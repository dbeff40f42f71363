/-
  A span is in another one just if each of its values is, and what is not there can be shown: for every two rows of predicates and every value the call of the law answers true, and all arguments read behind it as they read before. No condition.
-/
import Derived.Test.YtcgmbgfbhdimeaaSWit
import Derived.Test.YtcgmbgfbhdimeaaSArgs
namespace Go.Proofs.Ytcgmbgfbhdimeaa
open Go.RowKit Go.ChangeShapes Go.WideShapes Go.ChangeAt Go.Sort Spans
theorem witness_at (a b : Sp) (ha : Canon a) (hb : Canon b) (hin : inn a b = false) (A : Option Addr) (n c : Nat) (A' : Option Addr) (n' c' : Nat) (w : World) (hn : a.no.length = n) (hm : n ≤ 1000) (hn' : b.no.length = n') (hm' : n' ≤ 1000) (hr : RdW w A a.no) (hr' : RdW w A' b.no) :
    Calls Try.prog 25 #[spF a.kind a.lo a.hi a.frm a.to_ a.opn A n c, spF b.kind b.lo b.hi b.frm b.to_ b.opn A' n' c'] w (Wits w a b) := by
  have hb4 := sub_any ha hb hin
  have ha0 := sub_none ha hb hin
  by_cases h4 : a.kind = 4
  · have e := kind_any ha h4
    subst e
    refine (wit_any 0 0 [] [] false A n c b.kind b.lo b.hi b.frm b.to_ b.opn A' n' c' w _ rfl).mono ?_
    rintro e w' ⟨rfl, hbb⟩
    by_cases h1 : b.kind = 1
    · rw [if_pos h1]
      exact ⟨3, 0, [], rfl, by decide, by decide, by decide, by decide, out_kind hb4 (by rw [h1]; show (3 : Int) ≠ 1; decide), hbb⟩
    · rw [if_neg h1]
      exact ⟨1, 0, [], rfl, by decide, by decide, by decide, by decide, out_kind hb4 (fun e => h1 e.symm), hbb⟩
  by_cases hk : a.kind = b.kind
  · rcases ha with rfl | rfl | ha | ha
    · exact absurd rfl ha0
    · exact absurd rfl h4
    · have hb' : CanonN b := by
        rcases hb with rfl | rfl | hb | hb
        · exact absurd hk ha0
        · exact absurd rfl hb4
        · exact hb
        · exact absurd (hk.trans hb.kind) (N_not4 ha).2.1
      obtain ⟨K, lo, hi, f, t, o, no⟩ := a
      obtain ⟨K', lo', hi', f', t', o', no'⟩ := b
      have e1 : f = [] := ha.frm
      have e2 : t = [] := ha.to_
      have e3 : o = false := ha.opn
      have e4 : f' = [] := hb'.frm
      have e5 : t' = [] := hb'.to_
      have e6 : o' = false := hb'.opn
      have e7 : K = K' := hk
      subst e1; subst e2; subst e3; subst e4; subst e5; subst e6; subst e7
      have hkk : K = 1 ∨ K = 3 := ha.kind
      have b1 : -9223372036854775808 ≤ lo := by
        have h : -9223372036854775808 ≤ lowest K := by unfold lowest; split <;> omega
        have := ha.low
        dsimp only at this
        omega
      have b2 : hi ≤ 9223372036854775807 := by
        have h : highest K ≤ 9223372036854775807 := by unfold highest; split <;> omega
        have := ha.high
        dsimp only at this
        omega
      have b3 : lo ≤ hi := ha.ord
      by_cases h1 : lo < lo'
      · refine (wit_first K lo hi A n c lo' hi' A' n' c' w hkk h1).mono ?_
        rintro e w' ⟨rfl, hbb⟩
        refine ⟨K, lo, [], rfl, by simp, b1, by omega, has_lo ha, ?_, hbb⟩
        cases hh : has (⟨K, lo', hi', [], [], false, no'⟩ : Sp) ⟨K, lo, []⟩ with
        | false => rfl
        | true =>
          rw [N_iff hb'] at hh
          have := hh.2.2.2.1
          dsimp only at this
          omega
      · by_cases h2 : hi' < hi
        · refine (wit_last K lo hi A n c lo' hi' A' n' c' w hkk h1 h2).mono ?_
          rintro e w' ⟨rfl, hbb⟩
          refine ⟨K, hi, [], rfl, by simp, by omega, b2, has_hi ha, ?_, hbb⟩
          cases hh : has (⟨K, lo', hi', [], [], false, no'⟩ : Sp) ⟨K, hi, []⟩ with
          | false => rfl
          | true =>
            rw [N_iff hb'] at hh
            have := hh.2.2.2.2
            dsimp only at this
            omega
        · exact wit_N K lo hi A n c lo' hi' A' n' c' w no no' hkk h1 h2 ha hb' hin hn hm hn' hm' hr hr'
    · have hb' : CanonT b := by
        rcases hb with rfl | rfl | hb | hb
        · exact absurd hk ha0
        · exact absurd rfl hb4
        · exact absurd (hk.symm.trans ha.kind) (N_not4 hb).2.1
        · exact hb
      obtain ⟨K, lo, hi, f, t, o, no⟩ := a
      obtain ⟨K', lo', hi', f', t', o', no'⟩ := b
      have e1 : lo = 0 := ha.lo
      have e2 : hi = 0 := ha.hi
      have e3 : lo' = 0 := hb'.lo
      have e4 : hi' = 0 := hb'.hi
      have e5 : K = 2 := ha.kind
      have e6 : K' = 2 := hb'.kind
      subst e1; subst e2; subst e3; subst e4; subst e5; subst e6
      cases h1 : Go.Op.bytesLess f f' with
      | true =>
        refine (wit_front f t o A n c f' t' o' A' n' c' w h1).mono ?_
        rintro e w' ⟨rfl, hbb⟩
        have hl := Short.len ha.flen
        dsimp only at hl
        refine ⟨2, 0, f, rfl, by omega, by decide, by decide, has_frm ha, ?_, hbb⟩
        cases hh : has (⟨2, 0, 0, f', t', o', no'⟩ : Sp) ⟨2, 0, f⟩ with
        | false => rfl
        | true =>
          rw [T_iff hb'] at hh
          have := hh.2.2.2.1
          dsimp only at this
          rw [h1] at this
          simp at this
      | false => exact wit_T f t o A n c f' t' o' A' n' c' w no no' h1 ha hb' hin hn hm hn' hm' hr hr'
  · refine (wit_kinds a.kind a.lo a.hi a.frm a.to_ a.opn A n c b.kind b.lo b.hi b.frm b.to_ b.opn A' n' c' w h4 hk).mono ?_
    rintro e w' ⟨rfl, hbb⟩
    have hout : has b ⟨a.kind, a.lo, a.frm⟩ = false := out_kind hb4 hk
    rcases ha with rfl | rfl | ha | ha
    · exact absurd rfl ha0
    · exact absurd rfl h4
    · have e := ha.frm
      have hi1 := has_lo ha
      have hv := (rightV_iff _).1 (has_right hi1)
      rw [e] at hout ⊢
      exact ⟨a.kind, a.lo, [], rfl, by simp, hv.2.1, hv.2.2, hi1, hout, hbb⟩
    · have e := ha.lo
      have ek := ha.kind
      have hi1 := has_frm ha
      have hl := Short.len ha.flen
      rw [e, ek] at hout ⊢
      exact ⟨2, 0, a.frm, rfl, by omega, by decide, by decide, hi1, hout, hbb⟩
set_option maxRecDepth 100000 in
set_option maxHeartbeats 8000000 in
theorem walk_SpanIn (w : World) (A : Option Addr) (l : List Pr) (n c : Nat) (hn : l.length = n) (hc : n ≤ c) (hm : c ≤ maxLen) (hr : RdQ w A l) (hl : ∀ a ∈ l, a.n.length ≤ maxLen ∧ a.t.length ≤ maxLen ∧ (Lit.int .i64 a.i).wf = true)
    (A2 : Option Addr) (m : List Pr) (n2 c2 : Nat) (hn2 : m.length = n2) (hc2 : n2 ≤ c2) (hm2 : c2 ≤ maxLen) (hr2 : RdQ w A2 m) (hl2 : ∀ a ∈ m, a.n.length ≤ maxLen ∧ a.t.length ≤ maxLen ∧ (Lit.int .i64 a.i).wf = true) (k i : Int) (x : List UInt8) (_ : (Lit.int .i64 k).wf = true) (wi : (Lit.int .i64 i).wf = true) (hx : x.length ≤ maxLen) :
    Calls Try.prog 5 #[.slice A n c, .slice A2 n2 c2, .agg #[.int .i64 k, .int .i64 i, .string ⟨x.toArray⟩]] w fun e w' => e = .returned (.bool true) ∧ Below w.heap.size w w' := by
  rw [maxLen_num] at hm hm2 hx
  have bi := bounds_i64 wi
  have HBI : Hid (-9223372036854775808 ≤ i ∧ i ≤ 9223372036854775807) := bi
  have HL2 : Hid (∀ p ∈ l, p.n.length ≤ 9223372036854775807 ∧ p.t.length ≤ 9223372036854775807) := fun p hp => by have := hl p hp; rw [maxLen_num] at this; exact ⟨this.1, this.2.1⟩
  have HL3 : Hid (∀ p ∈ l, -9223372036854775808 ≤ p.i ∧ p.i ≤ 9223372036854775807) := fun p hp => bounds_i64 (hl p hp).2.2
  have HM2 : Hid (∀ p ∈ m, p.n.length ≤ 9223372036854775807 ∧ p.t.length ≤ 9223372036854775807) := fun p hp => by have := hl2 p hp; rw [maxLen_num] at this; exact ⟨this.1, this.2.1⟩
  have HM3 : Hid (∀ p ∈ m, -9223372036854775808 ≤ p.i ∧ p.i ≤ 9223372036854775807) := fun p hp => bounds_i64 (hl2 p hp).2.2
  have HN := Lib.hid hn
  have HR := Lib.hid hr
  have HM := Lib.hid hn2
  have HRM := Lib.hid hr2
  clear hn hl hr wi bi hn2 hl2 hr2
  have hV0 := Blk.new w 24 #[.int .i64 k, .int .i64 i, .string ⟨x.toArray⟩]
  have hb0 := (gr1 w (.cells #[.int .i64 k, .int .i64 i, .string ⟨x.toArray⟩] 24)).below
  go_enter Try.func5, Try.ntmps5
  go_wp2_with fail
  generalize (w.alloc (.cells #[.int .i64 k, .int .i64 i, .string ⟨x.toArray⟩] 24)) = w0 at *
  refine (small_at w0).mono ?_
  rintro e w1 ⟨rfl, hb1⟩
  have hV1 := Blk.below hV0 hb1 hV0.lt
  have hB1 := below_next hb0 (Nat.le_refl _) hb1
  clear hV0 hb0 hb1
  obtain ⟨s0, s1, s2, _⟩ := blk3 hV1
  have hlv := hV1.lt
  cases hfw : fewP l with
  | false =>
    have HFW := Lib.hid hfw
    clear hfw
    go_wp2_with fail
    refine (few_at A l n c HN.out (by omega) HL2.out w1 (HR.out.below hB1) false HFW.out).mono ?_
    rintro e w2 ⟨rfl, rfl⟩
    obtain ⟨bm, hbm⟩ : ∃ bm, fewP m = bm := ⟨_, rfl⟩
    have HFM := Lib.hid hbm
    clear hbm
    go_wp2_with fail
    refine (few_at A2 m n2 c2 HM.out (by omega) HM2.out w2 (HRM.out.below hB1) bm HFM.out).mono ?_
    rintro e w2 ⟨rfl, rfl⟩
    go_wp2_with fail
    go_ret
    exact ⟨rfl, hB1⟩
  | true =>
    have HFW := Lib.hid hfw
    clear hfw
    go_wp2_with fail
    refine (few_at A l n c HN.out (by omega) HL2.out w1 (HR.out.below hB1) true HFW.out).mono ?_
    rintro e w2 ⟨rfl, rfl⟩
    cases hfm : fewP m with
    | false =>
      have HFM := Lib.hid hfm
      clear hfm
      go_wp2_with fail
      refine (few_at A2 m n2 c2 HM.out (by omega) HM2.out w2 (HRM.out.below hB1) false HFM.out).mono ?_
      rintro e w2 ⟨rfl, rfl⟩
      go_wp2_with fail
      go_ret
      exact ⟨rfl, hB1⟩
    | true =>
      have HFM := Lib.hid hfm
      clear hfm
      go_wp2_with fail
      refine (few_at A2 m n2 c2 HM.out (by omega) HM2.out w2 (HRM.out.below hB1) true HFM.out).mono ?_
      rintro e w1 ⟨rfl, rfl⟩
      by_cases hx1 : x.length ≤ 100
      · have v1 : ¬ (100 : Int) < (x.length : Int) := by omega
        have hfw := HFW.out
        unfold fewP at hfw
        rw [Bool.and_eq_true, decide_eq_true_iff, decide_eq_true_iff] at hfw
        have HSH := Lib.hid hfw.1
        have hn24 : n ≤ 24 := by have := HN.out; omega
        have hfm := HFM.out
        unfold fewP at hfm
        rw [Bool.and_eq_true, decide_eq_true_iff, decide_eq_true_iff] at hfm
        have HSM := Lib.hid hfm.1
        have hm24 : n2 ≤ 24 := by have := HM.out; omega
        clear hfw HFW hfm HFM
        have HV1 := Lib.hid hV1
        go_wp2_with fail
        clear s0 s1 s2 hV1 hlv
        refine (fold_at A l n c HN.out (by omega) (fun p hp => ⟨(HSH.out p hp).1, (HSH.out p hp).2, HL3.out p hp⟩) w1 (HR.out.below hB1)).mono ?_
        rintro e w3 ⟨⟨aK, alo, ahi, af, at_, ao, ano⟩, halla, hrla, X, ad, ae, rfl, hlda, _, hoa, hba⟩
        dsimp only at hrla hlda hoa
        have hcana : Canon (⟨aK, alo, ahi, af, at_, ao, ano⟩ : Sp) := halla.1
        have had : ad ≤ 24 := by have := HN.out; omega
        have hb4 : Below w3.heap.size w3 (w3.alloc (.cells #[.int .i64 aK, .int .i64 alo, .int .i64 ahi, .string ⟨af.toArray⟩, .string ⟨at_.toArray⟩, .bool ao, .slice X ad ae] 29)) := (Below.refl _ _).alloc (Nat.le_refl _) _
        have hA4 : Blk (w3.alloc (.cells #[.int .i64 aK, .int .i64 alo, .int .i64 ahi, .string ⟨af.toArray⟩, .string ⟨at_.toArray⟩, .bool ao, .slice X ad ae] 29)) w3.heap.size 29 #[.int .i64 aK, .int .i64 alo, .int .i64 ahi, .string ⟨af.toArray⟩, .string ⟨at_.toArray⟩, .bool ao, .slice X ad ae] := Blk.new _ _ _
        have hB4 := below_next (below_next hB1 (by have := hB1.size; omega) hba) (by have := hB1.size; omega) hb4
        have HV4 := Lib.hid (Blk.below (Blk.below HV1.out hba HV1.out.lt) hb4 (Nat.lt_of_lt_of_le HV1.out.lt hba.size))
        have HXA4 := Lib.hid ((Gives.rd hoa).below hb4)
        have HA4 := Lib.hid hA4
        have HCA := Lib.hid hcana
        have HLA := Lib.hid hlda
        clear hb4 hA4 hba hoa hB1 HV1 halla hrla hcana hlda
        go_wp2_with fail
        generalize w3.alloc (.cells #[.int .i64 aK, .int .i64 alo, .int .i64 ahi, .string ⟨af.toArray⟩, .string ⟨at_.toArray⟩, .bool ao, .slice X ad ae] 29) = w4 at *
        generalize w3.heap.size = V at *
        refine (fold_at A2 m n2 c2 HM.out (by omega) (fun p hp => ⟨(HSM.out p hp).1, (HSM.out p hp).2, HM3.out p hp⟩) w4 (HRM.out.below hB4)).mono ?_
        rintro e w5 ⟨⟨bK, blo, bhi, bf, bt, bo, bno⟩, hallb, hrlb, Y, bd, be, rfl, hldb, _, hob, hbb⟩
        dsimp only at hrlb hldb hob
        have hcanb : Canon (⟨bK, blo, bhi, bf, bt, bo, bno⟩ : Sp) := hallb.1
        have hbd : bd ≤ 24 := by have := HM.out; omega
        have hb6 : Below w5.heap.size w5 (w5.alloc (.cells #[.int .i64 bK, .int .i64 blo, .int .i64 bhi, .string ⟨bf.toArray⟩, .string ⟨bt.toArray⟩, .bool bo, .slice Y bd be] 29)) := (Below.refl _ _).alloc (Nat.le_refl _) _
        have hC6 : Blk (w5.alloc (.cells #[.int .i64 bK, .int .i64 blo, .int .i64 bhi, .string ⟨bf.toArray⟩, .string ⟨bt.toArray⟩, .bool bo, .slice Y bd be] 29)) w5.heap.size 29 #[.int .i64 bK, .int .i64 blo, .int .i64 bhi, .string ⟨bf.toArray⟩, .string ⟨bt.toArray⟩, .bool bo, .slice Y bd be] := Blk.new _ _ _
        have hb46 := below_next hbb (Nat.le_refl _) hb6
        have hB6 := below_next hB4 (by have := hB4.size; omega) hb46
        have HV6 := Lib.hid (Blk.below HV4.out hb46 HV4.out.lt)
        have HA6 := Lib.hid (Blk.below HA4.out hb46 HA4.out.lt)
        have HXA6 := Lib.hid (HXA4.out.below hb46)
        have HXB6 := Lib.hid ((Gives.rd hob).below hb6)
        have HC6 := Lib.hid hC6
        have HCB := Lib.hid hcanb
        have HLB := Lib.hid hldb
        have HB6 := Lib.hid hB6
        clear hb6 hC6 hbb hob hB4 HV4 HA4 HXA4 hallb hrlb hcanb hldb hb46 hB6
        obtain ⟨a0, a1, a2, a3, a4, a5, a6, _⟩ := blk7 HA6.out
        have hla := HA6.out.lt
        go_wp2_with fail
        clear a0 a1 a2 a3 a4 a5 a6 hla
        generalize w5.alloc (.cells #[.int .i64 bK, .int .i64 blo, .int .i64 bhi, .string ⟨bf.toArray⟩, .string ⟨bt.toArray⟩, .bool bo, .slice Y bd be] 29) = w6 at *
        generalize w5.heap.size = V2 at *
        cases hin : inn (⟨aK, alo, ahi, af, at_, ao, ano⟩ : Sp) (⟨bK, blo, bhi, bf, bt, bo, bno⟩ : Sp) with
        | true =>
          have HSUB : Hid (∀ v, has (⟨aK, alo, ahi, af, at_, ao, ano⟩ : Sp) v = true → has (⟨bK, blo, bhi, bf, bt, bo, bno⟩ : Sp) v = true) := (in_iff HCA.out HCB.out).1 hin
          refine (in_is aK alo ahi af at_ ao X ad ae (⟨aK, alo, ahi, af, at_, ao, ano⟩ : Sp) rfl bK blo bhi bf bt bo Y bd be (⟨bK, blo, bhi, bf, bt, bo, bno⟩ : Sp) rfl HCA.out HCB.out w6 HLA.out (by omega) HLB.out (by omega) HXA6.out HXB6.out true hin).mono ?_
          rintro e w7 ⟨rfl, hb7⟩
          clear hin
          have HV7 := Lib.hid (Blk.below HV6.out hb7 HV6.out.lt)
          have HA7 := Lib.hid (Blk.below HA6.out hb7 HA6.out.lt)
          have HC7 := Lib.hid (Blk.below HC6.out hb7 HC6.out.lt)
          have HXA7 := Lib.hid (HXA6.out.below hb7)
          have HXB7 := Lib.hid (HXB6.out.below hb7)
          have HB7 := Lib.hid (below_next HB6.out (by have := HB6.out.size; omega) hb7)
          clear HV6 HA6 HC6 HXA6 HXB6 HB6 hb7
          obtain ⟨a0, a1, a2, a3, a4, a5, a6, _⟩ := blk7 HA7.out
          obtain ⟨s0, s1, s2, _⟩ := blk3 HV7.out
          have hla := HA7.out.lt
          have hlv := HV7.out.lt
          go_wp2_with fail
          cases h1 : has (⟨aK, alo, ahi, af, at_, ao, ano⟩ : Sp) ⟨k, i, x⟩ with
          | false =>
            refine (has_is aK alo ahi af at_ ao X ad ae (⟨aK, alo, ahi, af, at_, ao, ano⟩ : Sp) rfl HCA.out k i x w7 HLA.out (by omega) hx HBI.out.1 HBI.out.2 HXA7.out false h1).mono ?_
            rintro e w8 ⟨rfl, hg8⟩
            clear h1
            go_wp2_with fail
            go_ret
            exact ⟨rfl, below_next HB7.out (by have := HB7.out.size; omega) hg8.below⟩
          | true =>
            refine (has_is aK alo ahi af at_ ao X ad ae (⟨aK, alo, ahi, af, at_, ao, ano⟩ : Sp) rfl HCA.out k i x w7 HLA.out (by omega) hx HBI.out.1 HBI.out.2 HXA7.out true h1).mono ?_
            rintro e w8 ⟨rfl, hg8⟩
            have HH2 := Lib.hid (HSUB.out _ h1)
            clear h1 a0 a1 a2 a3 a4 a5 a6 s0 s1 s2 hla hlv
            have hV8 := Blk.below HV7.out hg8.below HV7.out.lt
            have hC8 := Blk.below HC7.out hg8.below HC7.out.lt
            have HXB8 := Lib.hid (HXB7.out.below hg8.below)
            have hB8 := below_next HB7.out (by have := HB7.out.size; omega) hg8.below
            obtain ⟨b0, b1, b2, b3, b4, b5, b6, _⟩ := blk7 hC8
            obtain ⟨s0, s1, s2, _⟩ := blk3 hV8
            have hlc := hC8.lt
            have hlv := hV8.lt
            go_wp2_with fail
            refine (has_is bK blo bhi bf bt bo Y bd be (⟨bK, blo, bhi, bf, bt, bo, bno⟩ : Sp) rfl HCB.out k i x w8 HLB.out (by omega) hx HBI.out.1 HBI.out.2 HXB8.out true HH2.out).mono ?_
            rintro e w9 ⟨rfl, hg9⟩
            go_wp2_with fail
            go_ret
            exact ⟨rfl, below_next hB8 (by have := hB8.size; omega) hg9.below⟩
        | false =>
          have HIN := Lib.hid hin
          refine (in_is aK alo ahi af at_ ao X ad ae (⟨aK, alo, ahi, af, at_, ao, ano⟩ : Sp) rfl bK blo bhi bf bt bo Y bd be (⟨bK, blo, bhi, bf, bt, bo, bno⟩ : Sp) rfl HCA.out HCB.out w6 HLA.out (by omega) HLB.out (by omega) HXA6.out HXB6.out false hin).mono ?_
          rintro e w7 ⟨rfl, hb7⟩
          clear hin
          have HA7 := Lib.hid (Blk.below HA6.out hb7 HA6.out.lt)
          have HC7 := Lib.hid (Blk.below HC6.out hb7 HC6.out.lt)
          have HXA7 := Lib.hid (HXA6.out.below hb7)
          have HXB7 := Lib.hid (HXB6.out.below hb7)
          have HB7 := Lib.hid (below_next HB6.out (by have := HB6.out.size; omega) hb7)
          clear HV6 HA6 HC6 HXA6 HXB6 HB6 hb7
          obtain ⟨a0, a1, a2, a3, a4, a5, a6, _⟩ := blk7 HA7.out
          obtain ⟨b0, b1, b2, b3, b4, b5, b6, _⟩ := blk7 HC7.out
          have hla := HA7.out.lt
          have hlc := HC7.out.lt
          go_wp2_with fail
          clear a0 a1 a2 a3 a4 a5 a6 b0 b1 b2 b3 b4 b5 b6 hla hlc
          refine (witness_at (⟨aK, alo, ahi, af, at_, ao, ano⟩ : Sp) (⟨bK, blo, bhi, bf, bt, bo, bno⟩ : Sp) HCA.out HCB.out HIN.out X ad ae Y bd be w7 HLA.out (by omega) HLB.out (by omega) HXA7.out HXB7.out).mono ?_
          rintro e w8 ⟨zk, zi, zx, rfl, hz1, hz2, hz3, hh1, hh2, hb8⟩
          have HH1 := Lib.hid hh1
          have HH2 := Lib.hid hh2
          have hb9 : Below w8.heap.size w8 (w8.alloc (.cells #[.int .i64 zk, .int .i64 zi, .string ⟨zx.toArray⟩] 24)) := (Below.refl _ _).alloc (Nat.le_refl _) _
          have hZ9 : Blk (w8.alloc (.cells #[.int .i64 zk, .int .i64 zi, .string ⟨zx.toArray⟩] 24)) w8.heap.size 24 #[.int .i64 zk, .int .i64 zi, .string ⟨zx.toArray⟩] := Blk.new _ _ _
          have hb79 := below_next hb8 (Nat.le_refl _) hb9
          have hA9 := Blk.below HA7.out hb79 HA7.out.lt
          have hC9 := Blk.below HC7.out hb79 HC7.out.lt
          have HXA9 := Lib.hid (HXA7.out.below hb79)
          have HXB9 := Lib.hid (HXB7.out.below hb79)
          have HB9 := Lib.hid (below_next HB7.out (by have := HB7.out.size; omega) hb79)
          have hA8 := Blk.below HA7.out hb8 HA7.out.lt
          have hlt8 := hA8.lt
          have hne8 : ¬ w8.heap.size = V := by omega
          obtain ⟨a0, a1, a2, a3, a4, a5, a6, _⟩ := blk7 hA8
          clear HA7 HC7 HXA7 HXB7 HB7 hb8 hb9 hb79 hh1 hh2
          go_wp2_with fail
          clear a0 a1 a2 a3 a4 a5 a6
          generalize w8.alloc (.cells #[.int .i64 zk, .int .i64 zi, .string ⟨zx.toArray⟩] 24) = w9 at *
          generalize w8.heap.size = V3 at *
          refine (has_is aK alo ahi af at_ ao X ad ae (⟨aK, alo, ahi, af, at_, ao, ano⟩ : Sp) rfl HCA.out zk zi zx w9 HLA.out (by omega) (by omega) hz2 hz3 HXA9.out true HH1.out).mono ?_
          rintro e wa ⟨rfl, hga⟩
          have hZa := Blk.below hZ9 hga.below hZ9.lt
          have hCa := Blk.below hC9 hga.below hC9.lt
          have HXBa := Lib.hid (HXB9.out.below hga.below)
          have hBa := below_next HB9.out (by have := HB9.out.size; omega) hga.below
          obtain ⟨b0, b1, b2, b3, b4, b5, b6, _⟩ := blk7 hCa
          obtain ⟨s0, s1, s2, _⟩ := blk3 hZa
          have hlc := hCa.lt
          have hlz := hZa.lt
          go_wp2_with fail
          refine (has_is bK blo bhi bf bt bo Y bd be (⟨bK, blo, bhi, bf, bt, bo, bno⟩ : Sp) rfl HCB.out zk zi zx wa HLB.out (by omega) (by omega) hz2 hz3 HXBa.out false HH2.out).mono ?_
          rintro e wb ⟨rfl, hgb⟩
          go_wp2_with fail
          go_ret
          exact ⟨rfl, below_next hBa (by have := hBa.size; omega) hgb.below⟩
      · have v1 : (100 : Int) < (x.length : Int) := by omega
        go_wp2_with fail
        go_ret
        exact ⟨rfl, hB1⟩

/-! ### The row's step. -/
namespace spanIn
theorem own : ownKnob Try.prog.godebug = none := by kernel_rfl
theorem laidOut : laidOutB Try.prog = true := by kernel_rfl
set_option linter.unusedVariables false in
set_option maxRecDepth 100000 in
theorem lifted (os : Os) (started : os.Started) (H : Type) (enc : TypeId × Value → H) :
    ReturnsInHanded {} Try.checked os 5 .any (Rows.spanInSpec.pre6 enc Try.prog Try.f5 Rows.spanInRow.domain false) (Rows.spanInSpec.post enc Try.prog Try.f5 false true false false) := by
  refine returnsInHanded_of_change_sized (C := Try.checked) own started (by kernel_rfl) Try.func5
    (ChangeSpec.witness6 (enc := enc) (C := Try.checked) false ⟨#[], #[.slice none 0 0, .slice none 0 0, .agg #[.int .i64 0, .int .i64 0, .string ⟨#[]⟩]], []⟩ 8 (by kernel_rfl) (by kernel_rfl) (by kernel_rfl) (by kernel_rfl)) ?_
  intro W base args ds gs before hval0 hW hcnd hsz0 _
  have hval : ∀ (j : Nat) t v, Try.f5.params[j]? = some t → args[j]? = some v → Value.okWide Try.prog W .any base t v := hval0
  have hsz : (DataW.weightsEach Try.prog (Try.f5.params.toList ++ Rows.spanInSpec.plain.varTypes Try.prog) (ds ++ gs)).all (· ≤ reachBytes) = true := hsz0
  have hW' := hW
  obtain ⟨p, q, hA0, hV, rfl, hfz, hnd⟩ := hW
  have hA : DataW.TrodAll enc Try.prog W 0 (fun _ => true) true Try.f5.params.toList args.toList ds p := hA0
  rw [Try.params5] at hA hval hsz
  obtain ⟨v0, vs0, d0, ds0, p0, q0, hargs, rfl, rfl, h0, r0⟩ := trodAll_cons hA
  obtain ⟨v1, vs1, d1, ds1, p1, q1, rfl, rfl, rfl, h1, r1⟩ := trodAll_cons r0
  obtain ⟨v2, vs2, d2, ds2, p2, q2, rfl, rfl, rfl, h2, r2⟩ := trodAll_cons r1
  obtain ⟨rfl, rfl, rfl⟩ := trodAll_nil r2
  obtain rfl : args = #[v0, v1, v2] := by cases args; simp_all
  obtain ⟨rfl, rfl⟩ := trodVars_none hV
  obtain ⟨a0, len0, cap0, rfl⟩ := okWide_slice Try.underlying22 (hval 0 22 v0 rfl rfl)
  have k0 := h0
  have lt0 : ∀ x ∈ p0, x.block < W.heap.size := by obtain ⟨m, hm⟩ := k0; exact DataW.trod_lt m _ _ _ hm
  obtain ⟨es0, hl0, hc0, hm0, rd0, hw0⟩ := open_preds_of Try.underlying22 Try.underlying40 (by kernel_rfl) ⟨rfl, rfl, by kernel_rfl⟩ ⟨rfl, rfl, by kernel_rfl⟩ ⟨rfl, rfl, by kernel_rfl⟩ Try.underlying9 Try.underlying3 Try.underlying24 ⟨rfl, rfl, by kernel_rfl⟩ ⟨rfl, rfl, by kernel_rfl⟩ ⟨rfl, rfl, by kernel_rfl⟩ Try.underlying3 Try.underlying3 Try.underlying9 k0
  obtain ⟨a1, len1, cap1, rfl⟩ := okWide_slice Try.underlying22 (hval 1 22 v1 rfl rfl)
  have k1 := h1
  have lt1 : ∀ x ∈ p1, x.block < W.heap.size := by obtain ⟨m, hm⟩ := k1; exact DataW.trod_lt m _ _ _ hm
  obtain ⟨es1, hl1, hc1, hm1, rd1, hw1⟩ := open_preds_of Try.underlying22 Try.underlying40 (by kernel_rfl) ⟨rfl, rfl, by kernel_rfl⟩ ⟨rfl, rfl, by kernel_rfl⟩ ⟨rfl, rfl, by kernel_rfl⟩ Try.underlying9 Try.underlying3 Try.underlying24 ⟨rfl, rfl, by kernel_rfl⟩ ⟨rfl, rfl, by kernel_rfl⟩ ⟨rfl, rfl, by kernel_rfl⟩ Try.underlying3 Try.underlying3 Try.underlying9 k1
  obtain ⟨kk2, ii2, ss2, rfl, wk2, wi2, ws2⟩ := open_val_of Try.underlying24 (by kernel_rfl) (by kernel_rfl) Try.underlying3 Try.underlying3 Try.underlying9 (hval 2 24 v2 rfl rfl) h2
  have k2 := h2
  have lt2 : ∀ x ∈ p2, x.block < W.heap.size := by obtain ⟨m, hm⟩ := k2; exact DataW.trod_lt m _ _ _ hm
  clear hA0 hval0
  refine (walk_SpanIn W a0 es0 len0 cap0 hl0 hc0 hm0 rd0 hw0 a1 es1 len1 cap1 hl1 hc1 hm1 rd1 hw1 kk2 ii2 ss2 wk2 wi2 ws2).mono fun e W' ⟨he, bel⟩ => ?_
  subst he
  exact ⟨_, rfl, _, _, _, [], _, [], hW', trodAll_mk1 (shut_bool Try.underlying4 _), (trodAll_cons_mk (Below.trod laidOut (by kernel_rfl) (of_decide_eq_true (by kernel_rfl)) k0 bel lt0) (trodAll_cons_mk (Below.trod laidOut (by kernel_rfl) (of_decide_eq_true (by kernel_rfl)) k1 bel lt1) (trodAll_cons_mk (Below.trod laidOut (by kernel_rfl) (of_decide_eq_true (by kernel_rfl)) k2 bel lt2) trodAll_mk0))), rfl, bel.frame _, fun h => by cases h⟩
theorem over : Rows.spanInRow.holds Try.pinned (OpenSpec.ofChange Rows.spanInSpec) :=
  OpenClaim.holds_of_wide 5 Try.f5 rfl rfl rfl rfl rfl rfl rfl ⟨rfl, rfl, rfl, rfl, rfl⟩ rfl rfl rfl rfl rfl (by kernel_rfl) Try.func5 (by kernel_rfl)
    (of_decide_eq_true (by kernel_rfl)) (by unfold Func.isWrapper; first | (rw [if_pos (by decide +kernel)]; kernel_rfl) | (rw [if_neg (by decide +kernel)]; exact ⟨rfl, rfl⟩))
    (fun os started H enc _ => lifted os started H enc)
end spanIn
/-- THE STATEMENT. -/
theorem spanIn_holds : Rows.SpanInSaid := spanIn.over
#print axioms spanIn_holds
end Go.Proofs.Ytcgmbgfbhdimeaa
