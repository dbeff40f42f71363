/-
  Each set has one span, and two that are in each other are the same: for every two rows of predicates the call of the law answers true, and all arguments read behind it as they read before. No condition.
-/
import Derived.Test.YtcgmbgfbhdimeaaSSml
import Derived.Test.YtcgmbgfbhdimeaaSArgs
namespace Go.Proofs.Ytcgmbgfbhdimeaa
open Go.RowKit Go.ChangeShapes Go.WideShapes Go.ChangeAt Go.Sort Spans
theorem in_both {a b : Sp} (ha : Canon a) (hb : Canon b) : decide (a = b) = (inn a b && inn b a) := by
  rw [Bool.eq_iff_iff, decide_eq_true_iff, Bool.and_eq_true, in_iff ha hb, in_iff hb ha]
  constructor
  · intro e; subst e; exact ⟨fun _ h => h, fun _ h => h⟩
  · rintro ⟨h1, h2⟩
    refine Spans.one ha hb fun v => ?_
    rw [Bool.eq_iff_iff]
    exact ⟨h1 v, h2 v⟩
theorem in_self {a : Sp} (ha : Canon a) : inn a a = true := (in_iff ha ha).2 fun _ h => h
theorem meet_turn {a b p r : Sp} (h1 : IsMeet a b p) (h2 : IsMeet b a r) : p = r := Spans.one h1.1 h2.1 fun v => by rw [h1.has v, h2.has v, Bool.and_comm]
theorem meet_in {a b u : Sp} (h : IsMeet a b u) (ha : Canon a) : inn u a = true := (in_iff h.1 ha).2 fun v hv => by
  rw [h.has v, Bool.and_eq_true] at hv
  exact hv.1
set_option maxRecDepth 100000 in
set_option maxHeartbeats 16000000 in
theorem walk_SpanOne (w : World) (A : Option Addr) (l : List Pr) (n c : Nat) (hn : l.length = n) (hc : n ≤ c) (hm : c ≤ maxLen) (hr : RdQ w A l) (hl : ∀ a ∈ l, a.n.length ≤ maxLen ∧ a.t.length ≤ maxLen ∧ (Lit.int .i64 a.i).wf = true) (A2 : Option Addr) (m : List Pr) (n2 c2 : Nat) (hn2 : m.length = n2) (hc2 : n2 ≤ c2) (hm2 : c2 ≤ maxLen) (hr2 : RdQ w A2 m) (hl2 : ∀ a ∈ m, a.n.length ≤ maxLen ∧ a.t.length ≤ maxLen ∧ (Lit.int .i64 a.i).wf = true) :
    Calls Try.prog 6 #[.slice A n c, .slice A2 n2 c2] w fun e w' => e = .returned (.bool true) ∧ Below w.heap.size w w' := by
  rw [maxLen_num] at hm hm2
  have HL2 : Hid (∀ p ∈ l, p.n.length ≤ 9223372036854775807 ∧ p.t.length ≤ 9223372036854775807) := fun p hp => by have := hl p hp; rw [maxLen_num] at this; exact ⟨this.1, this.2.1⟩
  have HL3 : Hid (∀ p ∈ l, -9223372036854775808 ≤ p.i ∧ p.i ≤ 9223372036854775807) := fun p hp => bounds_i64 (hl p hp).2.2
  have HN := Lib.hid hn
  have HR := Lib.hid hr
  obtain ⟨b1, hb1⟩ : ∃ b, fewP l = b := ⟨_, rfl⟩
  have HF1 := Lib.hid hb1
  clear hn hl hr hb1
  have HL22 : Hid (∀ p ∈ m, p.n.length ≤ 9223372036854775807 ∧ p.t.length ≤ 9223372036854775807) := fun p hp => by have := hl2 p hp; rw [maxLen_num] at this; exact ⟨this.1, this.2.1⟩
  have HL32 : Hid (∀ p ∈ m, -9223372036854775808 ≤ p.i ∧ p.i ≤ 9223372036854775807) := fun p hp => bounds_i64 (hl2 p hp).2.2
  have HN2 := Lib.hid hn2
  have HR2 := Lib.hid hr2
  obtain ⟨b2, hb2⟩ : ∃ b, fewP m = b := ⟨_, rfl⟩
  have HF2 := Lib.hid hb2
  clear hn2 hl2 hr2 hb2
  go_enter Try.func6, Try.ntmps6
  go_wp2_with fail
  refine (small_at w).mono ?_
  rintro e w1 ⟨rfl, hB1⟩
  go_wp2_with fail
  refine (few_at A l n c HN.out (by omega) HL2.out w1 (HR.out.below hB1) b1 HF1.out).mono ?_
  rintro e w1 ⟨rfl, rfl⟩
  go_wp2_with fail
  refine (few_at A2 m n2 c2 HN2.out (by omega) HL22.out w1 (HR2.out.below hB1) b2 HF2.out).mono ?_
  rintro e w1 ⟨rfl, rfl⟩
  cases b1 with
  | false =>
    go_wp2_with fail
    go_ret
    exact ⟨rfl, hB1⟩
  | true =>
    cases b2 with
    | false =>
      go_wp2_with fail
      go_ret
      exact ⟨rfl, hB1⟩
    | true =>
      have HB1 := Lib.hid hB1
      clear hB1
      go_wp2_with fail
      have hfa := HF1.out
      unfold fewP at hfa
      rw [Bool.and_eq_true, decide_eq_true_iff, decide_eq_true_iff] at hfa
      have HSHa := Lib.hid hfa.1
      have h24a : n ≤ 24 := by have := HN.out; omega
      clear hfa
      refine (fold_at A l n c HN.out (by omega) (fun p hp => ⟨(HSHa.out p hp).1, (HSHa.out p hp).2, HL3.out p hp⟩) w1 (HR.out.below HB1.out)).mono ?_
      rintro e w2 ⟨⟨aK, alo, ahi, af, ag, ao, ano⟩, halla, hrla, Xa, ad, ae, rfl, hlda, _, hoa, hba⟩
      dsimp only at hrla hlda hoa
      have HCa : Hid (Canon (⟨aK, alo, ahi, af, ag, ao, ano⟩ : Sp)) := halla.1
      have HLDa := Lib.hid hlda
      have h24ad : ad ≤ 24 := by have := HN.out; omega
      have hbba : Below w2.heap.size w2 (w2.alloc (.cells #[.int .i64 aK, .int .i64 alo, .int .i64 ahi, .string ⟨af.toArray⟩, .string ⟨ag.toArray⟩, .bool ao, .slice Xa ad ae] 29)) := (Below.refl _ _).alloc (Nat.le_refl _) _
      have HVa : Hid (Blk (w2.alloc (.cells #[.int .i64 aK, .int .i64 alo, .int .i64 ahi, .string ⟨af.toArray⟩, .string ⟨ag.toArray⟩, .bool ao, .slice Xa ad ae] 29)) w2.heap.size 29 #[.int .i64 aK, .int .i64 alo, .int .i64 ahi, .string ⟨af.toArray⟩, .string ⟨ag.toArray⟩, .bool ao, .slice Xa ad ae]) := Blk.new _ _ _
      have hsta := below_next hba (Nat.le_refl _) hbba
      have HB3 := Lib.hid (below_next HB1.out (by have := HB1.out.size; omega) hsta)
      have HXa := Lib.hid ((Gives.rd hoa).below hbba)
      clear halla hrla hlda hoa hba hbba hsta HB1
      go_wp2_with fail
      generalize w2.alloc (.cells #[.int .i64 aK, .int .i64 alo, .int .i64 ahi, .string ⟨af.toArray⟩, .string ⟨ag.toArray⟩, .bool ao, .slice Xa ad ae] 29) = w3 at *
      generalize w2.heap.size = Va at *
      have hfb := HF2.out
      unfold fewP at hfb
      rw [Bool.and_eq_true, decide_eq_true_iff, decide_eq_true_iff] at hfb
      have HSHb := Lib.hid hfb.1
      have h24b : n2 ≤ 24 := by have := HN2.out; omega
      clear hfb
      refine (fold_at A2 m n2 c2 HN2.out (by omega) (fun p hp => ⟨(HSHb.out p hp).1, (HSHb.out p hp).2, HL32.out p hp⟩) w3 (HR2.out.below HB3.out)).mono ?_
      rintro e w4 ⟨⟨bK, blo, bhi, bf, bg, bo, bno⟩, hallb, hrlb, Xb, bd, be, rfl, hldb, _, hob, hbb⟩
      dsimp only at hrlb hldb hob
      have HCb : Hid (Canon (⟨bK, blo, bhi, bf, bg, bo, bno⟩ : Sp)) := hallb.1
      have HLDb := Lib.hid hldb
      have h24bd : bd ≤ 24 := by have := HN2.out; omega
      have hbbb : Below w4.heap.size w4 (w4.alloc (.cells #[.int .i64 bK, .int .i64 blo, .int .i64 bhi, .string ⟨bf.toArray⟩, .string ⟨bg.toArray⟩, .bool bo, .slice Xb bd be] 29)) := (Below.refl _ _).alloc (Nat.le_refl _) _
      have HVb : Hid (Blk (w4.alloc (.cells #[.int .i64 bK, .int .i64 blo, .int .i64 bhi, .string ⟨bf.toArray⟩, .string ⟨bg.toArray⟩, .bool bo, .slice Xb bd be] 29)) w4.heap.size 29 #[.int .i64 bK, .int .i64 blo, .int .i64 bhi, .string ⟨bf.toArray⟩, .string ⟨bg.toArray⟩, .bool bo, .slice Xb bd be]) := Blk.new _ _ _
      have hstb := below_next hbb (Nat.le_refl _) hbbb
      have HB5 := Lib.hid (below_next HB3.out (by have := HB3.out.size; omega) hstb)
      have HXb := Lib.hid ((Gives.rd hob).below hbbb)
      have HVa' := Lib.hid (Blk.below HVa.out hstb HVa.out.lt)
      have HXa' := Lib.hid (HXa.out.below hstb)
      clear HVa HXa
      have HVa := HVa'
      have HXa := HXa'
      clear HVa' HXa'
      clear hallb hrlb hldb hob hbb hbbb hstb HB3
      go_wp2_with fail
      generalize w4.alloc (.cells #[.int .i64 bK, .int .i64 blo, .int .i64 bhi, .string ⟨bf.toArray⟩, .string ⟨bg.toArray⟩, .bool bo, .slice Xb bd be] 29) = w5 at *
      generalize w4.heap.size = Vb at *
      have hVa : Blk w5.drew Va 29 #[.int .i64 aK, .int .i64 alo, .int .i64 ahi, .string ⟨af.toArray⟩, .string ⟨ag.toArray⟩, .bool ao, .slice Xa ad ae] := HVa.out
      have hVb : Blk w5.drew Vb 29 #[.int .i64 bK, .int .i64 blo, .int .i64 bhi, .string ⟨bf.toArray⟩, .string ⟨bg.toArray⟩, .bool bo, .slice Xb bd be] := HVb.out
      have hra0 : RdW w5.drew Xa ano := HXa.out.below (Below.refl _ _).drew
      have hrb0 : RdW w5.drew Xb bno := HXb.out.below (Below.refl _ _).drew
      have HBD : Hid (Below w.heap.size w w5.drew) := HB5.out.drew
      have hS0 : Below w5.drew.heap.size w5.drew w5.drew := Below.refl _ _
      have hca := HCa.out
      have hcb := HCb.out
      have hla : ano.length = ad := HLDa.out
      have hlb : bno.length = bd := HLDb.out
      have hsa : ad ≤ 1000 := by omega
      have hsb : bd ≤ 1000 := by omega
      have HAA : Hid (inn (⟨aK, alo, ahi, af, ag, ao, ano⟩ : Sp) (⟨aK, alo, ahi, af, ag, ao, ano⟩ : Sp) = true) := in_self hca
      have hsm := in_both hca hcb
      clear HVa HVb HXa HXb HB5
      refine wp_region_held_drew (S := fun w' => Below w5.drew.heap.size w5.drew w') (by kernel_rfl) hS0 (fun _ => ?_)
      generalize hx0 : w5.drew = x0 at *
      clear hx0
      cases hq1 : inn (⟨aK, alo, ahi, af, ag, ao, ano⟩ : Sp) (⟨bK, blo, bhi, bf, bg, bo, bno⟩ : Sp) with
      | false =>
        have HQ1 := Lib.hid hq1
        have HSM : Hid (decide ((⟨aK, alo, ahi, af, ag, ao, ano⟩ : Sp) = (⟨bK, blo, bhi, bf, bg, bo, bno⟩ : Sp)) = false) := by show _ = _; rw [hsm, hq1]; rfl
        clear hsm hq1
        refine wpAnyH_yes (i := 0) (d := 26) (v := ?_) rfl rfl (by kernel_rfl) (by kernel_rfl) (by kernel_rfl) (fun _ _ _ h => h) (by rfl) ?_ hS0 ?_
        rotate_left
        · intro w' hSw; go_simp <;> with_reducible rfl
        simp only [Act.put, List.setIfInBounds_toArray, List.set_cons_zero, List.set_cons_succ]
        refine wpAnyH_yes (i := 1) (d := 27) (v := ?_) rfl rfl (by kernel_rfl) (by kernel_rfl) (by kernel_rfl) (fun _ _ _ h => h) (by rfl) ?_ hS0 ?_
        rotate_left
        · intro w' hSw; go_simp <;> with_reducible rfl
        simp only [Act.put, List.setIfInBounds_toArray, List.set_cons_zero, List.set_cons_succ]
        refine wpAnyH_yes (i := 2) (d := 28) (v := ?_) rfl rfl (by kernel_rfl) (by kernel_rfl) (by kernel_rfl) (fun _ _ _ h => h) (by rfl) ?_ hS0 ?_
        rotate_left
        · intro w' hSw; obtain ⟨a0, a1, a2, a3, a4, a5, a6, _⟩ := blk7 (Blk.below hVa hSw hVa.lt); obtain ⟨b0, b1, b2, b3, b4, b5, b6, _⟩ := blk7 (Blk.below hVb hSw hVb.lt); go_simp <;> with_reducible rfl
        simp only [Act.put, List.setIfInBounds_toArray, List.set_cons_zero, List.set_cons_succ]
        refine wpAnyH_yes (i := 3) (d := 29) (v := ?_) rfl rfl (by kernel_rfl) (by kernel_rfl) (by kernel_rfl) (fun _ _ _ h => h) (by rfl) ?_ hS0 ?_
        rotate_left
        · intro w' hSw; obtain ⟨a0, a1, a2, a3, a4, a5, a6, _⟩ := blk7 (Blk.below hVa hSw hVa.lt); obtain ⟨b0, b1, b2, b3, b4, b5, b6, _⟩ := blk7 (Blk.below hVb hSw hVb.lt); go_simp <;> with_reducible rfl
        simp only [Act.put, List.setIfInBounds_toArray, List.set_cons_zero, List.set_cons_succ]
        refine wpAnyH_yes (i := 10) (d := 36) (v := ?_) rfl rfl (by kernel_rfl) (by kernel_rfl) (by kernel_rfl) (fun _ _ _ h => h) (by rfl) ?_ hS0 ?_
        rotate_left
        · intro w' hSw; obtain ⟨a0, a1, a2, a3, a4, a5, a6, _⟩ := blk7 (Blk.below hVa hSw hVa.lt); obtain ⟨b0, b1, b2, b3, b4, b5, b6, _⟩ := blk7 (Blk.below hVb hSw hVb.lt); go_simp <;> with_reducible rfl
        simp only [Act.put, List.setIfInBounds_toArray, List.set_cons_zero, List.set_cons_succ]
        refine wpAnyH_yes (i := 11) (d := 37) (v := ?_) rfl rfl (by kernel_rfl) (by kernel_rfl) (by kernel_rfl) (fun _ _ _ h => h) (by rfl) ?_ hS0 ?_
        rotate_left
        · intro w' hSw; obtain ⟨a0, a1, a2, a3, a4, a5, a6, _⟩ := blk7 (Blk.below hVa hSw hVa.lt); obtain ⟨b0, b1, b2, b3, b4, b5, b6, _⟩ := blk7 (Blk.below hVb hSw hVb.lt); go_simp <;> with_reducible rfl
        simp only [Act.put, List.setIfInBounds_toArray, List.set_cons_zero, List.set_cons_succ]
        have hin0 : inn (⟨aK, alo, ahi, af, ag, ao, ano⟩ : Sp) (⟨bK, blo, bhi, bf, bg, bo, bno⟩ : Sp) = false := HQ1.out
        refine wpAnyH_one (i := 4) (by kernel_rfl) rfl (by rfl) (fun Ka hKa => ?_)
        go_simp
        with_reducible refine (in_at (⟨aK, alo, ahi, af, ag, ao, ano⟩ : Sp) (⟨bK, blo, bhi, bf, bg, bo, bno⟩ : Sp) hca hcb Xa ad ae Xb bd be x0 hla hsa hlb hsb hra0 hrb0 false hin0).mono ?_
        rintro e x1 ⟨rfl, hg0⟩
        have hS1 := below_next hS0 (Nat.le_refl _) hg0
        clear hin0
        have hra1 := hra0.below hg0
        clear hra0
        have hrb1 := hrb0.below hg0
        clear hrb0
        go_wp2_with fail
        refine hKa.out _ _ hS1 ?_
        clear hKa Ka
        refine wpAnyH_yes (i := 5) (d := 31) (v := ?_) rfl rfl (by kernel_rfl) (by kernel_rfl) (by kernel_rfl) (fun _ _ _ h => h) (by rfl) ?_ hS1 ?_
        rotate_left
        · intro w' hSw; go_simp <;> with_reducible rfl
        simp only [Act.put, List.setIfInBounds_toArray, List.set_cons_zero, List.set_cons_succ]
        refine wpAnyH_no (i := 6) (d := 32) rfl rfl (by kernel_rfl) (by kernel_rfl) (by kernel_rfl) (fun _ _ _ h => h) (by rfl) hS1 ?_
        simp only [Act.put, List.setIfInBounds_toArray, List.set_cons_zero, List.set_cons_succ]
        refine wpAnyH_no (i := 7) (d := 33) rfl rfl (by kernel_rfl) (by kernel_rfl) (by kernel_rfl) (fun _ _ _ h => h) (by rfl) hS1 ?_
        simp only [Act.put, List.setIfInBounds_toArray, List.set_cons_zero, List.set_cons_succ]
        refine wpAnyH_no (i := 8) (d := 34) rfl rfl (by kernel_rfl) (by kernel_rfl) (by kernel_rfl) (fun _ _ _ h => h) (by rfl) hS1 ?_
        simp only [Act.put, List.setIfInBounds_toArray, List.set_cons_zero, List.set_cons_succ]
        refine wpAnyH_yes (i := 9) (d := 35) (v := ?_) rfl rfl (by kernel_rfl) (by kernel_rfl) (by kernel_rfl) (fun _ _ _ h => h) (by rfl) ?_ hS1 ?_
        rotate_left
        · intro w' hSw; go_simp <;> with_reducible rfl
        simp only [Act.put, List.setIfInBounds_toArray, List.set_cons_zero, List.set_cons_succ]
        have hsm1 : decide ((⟨aK, alo, ahi, af, ag, ao, ano⟩ : Sp) = (⟨bK, blo, bhi, bf, bg, bo, bno⟩ : Sp)) = false := HSM.out
        have hsl1 : ad ≤ 100000 := by omega
        have hsr1 : bd ≤ 100000 := by omega
        refine wpAnyH_one (i := 12) (by kernel_rfl) rfl (by rfl) (fun Ka hKa => ?_)
        go_simp
        with_reducible refine (refSame_is aK alo ahi af ag ao Xa ad ae bK blo bhi bf bg bo Xb bd be x1 ano bno hla hsl1 hlb hsr1 hra1 hrb1 false hsm1).mono ?_
        rintro e x2 ⟨rfl, hg1⟩
        have hS2 := below_next hS1 (Nat.le_refl _) hg1.below
        clear hsm1
        have hra2 := hra1.below hg1.below
        clear hra1
        have hrb2 := hrb1.below hg1.below
        clear hrb1
        go_wp2_with fail
        refine hKa.out _ _ hS2 ?_
        clear hKa Ka
        refine wpAnyH_yes (i := 13) (d := 39) (v := ?_) rfl rfl (by kernel_rfl) (by kernel_rfl) (by kernel_rfl) (fun _ _ _ h => h) (by rfl) ?_ hS2 ?_
        rotate_left
        · intro w' hSw; go_simp <;> with_reducible rfl
        simp only [Act.put, List.setIfInBounds_toArray, List.set_cons_zero, List.set_cons_succ]
        refine wpAnyH_yes (i := 14) (d := 40) (v := ?_) rfl rfl (by kernel_rfl) (by kernel_rfl) (by kernel_rfl) (fun _ _ _ h => h) (by rfl) ?_ hS2 ?_
        rotate_left
        · intro w' hSw; go_simp <;> with_reducible rfl
        simp only [Act.put, List.setIfInBounds_toArray, List.set_cons_zero, List.set_cons_succ]
        refine wpAnyH_yes (i := 15) (d := 41) (v := ?_) rfl rfl (by kernel_rfl) (by kernel_rfl) (by kernel_rfl) (fun _ _ _ h => h) (by rfl) ?_ hS2 ?_
        rotate_left
        · intro w' hSw; go_simp <;> with_reducible rfl
        simp only [Act.put, List.setIfInBounds_toArray, List.set_cons_zero, List.set_cons_succ]
        refine wpAnyH_yes (i := 16) (d := 42) (v := ?_) rfl rfl (by kernel_rfl) (by kernel_rfl) (by kernel_rfl) (fun _ _ _ h => h) (by rfl) ?_ hS2 ?_
        rotate_left
        · intro w' hSw; obtain ⟨a0, a1, a2, a3, a4, a5, a6, _⟩ := blk7 (Blk.below hVa hSw hVa.lt); obtain ⟨b0, b1, b2, b3, b4, b5, b6, _⟩ := blk7 (Blk.below hVb hSw hVb.lt); go_simp <;> with_reducible rfl
        simp only [Act.put, List.setIfInBounds_toArray, List.set_cons_zero, List.set_cons_succ]
        refine wpAnyH_yes (i := 17) (d := 43) (v := ?_) rfl rfl (by kernel_rfl) (by kernel_rfl) (by kernel_rfl) (fun _ _ _ h => h) (by rfl) ?_ hS2 ?_
        rotate_left
        · intro w' hSw; obtain ⟨a0, a1, a2, a3, a4, a5, a6, _⟩ := blk7 (Blk.below hVa hSw hVa.lt); obtain ⟨b0, b1, b2, b3, b4, b5, b6, _⟩ := blk7 (Blk.below hVb hSw hVb.lt); go_simp <;> with_reducible rfl
        simp only [Act.put, List.setIfInBounds_toArray, List.set_cons_zero, List.set_cons_succ]
        have hin2 : inn (⟨aK, alo, ahi, af, ag, ao, ano⟩ : Sp) (⟨aK, alo, ahi, af, ag, ao, ano⟩ : Sp) = true := HAA.out
        refine wpAnyH_one (i := 18) (by kernel_rfl) rfl (by rfl) (fun Ka hKa => ?_)
        go_simp
        with_reducible refine (in_at (⟨aK, alo, ahi, af, ag, ao, ano⟩ : Sp) (⟨aK, alo, ahi, af, ag, ao, ano⟩ : Sp) hca hca Xa ad ae Xa ad ae x2 hla hsa hla hsa hra2 hra2 true hin2).mono ?_
        rintro e x3 ⟨rfl, hg2⟩
        have hS3 := below_next hS2 (Nat.le_refl _) hg2
        clear hin2
        have hra3 := hra2.below hg2
        clear hra2
        have hrb3 := hrb2.below hg2
        clear hrb2
        go_wp2_with fail
        refine hKa.out _ _ hS3 ?_
        clear hKa Ka
        refine wpAnyH_yes (i := 19) (d := 45) (v := ?_) rfl rfl (by kernel_rfl) (by kernel_rfl) (by kernel_rfl) (fun _ _ _ h => h) (by rfl) ?_ hS3 ?_
        rotate_left
        · intro w' hSw; go_simp <;> with_reducible rfl
        simp only [Act.put, List.setIfInBounds_toArray, List.set_cons_zero, List.set_cons_succ]
        refine wpAnyH_yes (i := 20) (d := 46) (v := ?_) rfl rfl (by kernel_rfl) (by kernel_rfl) (by kernel_rfl) (fun _ _ _ h => h) (by rfl) ?_ hS3 ?_
        rotate_left
        · intro w' hSw; go_simp <;> with_reducible rfl
        simp only [Act.put, List.setIfInBounds_toArray, List.set_cons_zero, List.set_cons_succ]
        refine wpAnyH_yes (i := 21) (d := 47) (v := ?_) rfl rfl (by kernel_rfl) (by kernel_rfl) (by kernel_rfl) (fun _ _ _ h => h) (by rfl) ?_ hS3 ?_
        rotate_left
        · intro w' hSw; obtain ⟨a0, a1, a2, a3, a4, a5, a6, _⟩ := blk7 (Blk.below hVa hSw hVa.lt); obtain ⟨b0, b1, b2, b3, b4, b5, b6, _⟩ := blk7 (Blk.below hVb hSw hVb.lt); go_simp <;> with_reducible rfl
        simp only [Act.put, List.setIfInBounds_toArray, List.set_cons_zero, List.set_cons_succ]
        refine wpAnyH_yes (i := 22) (d := 48) (v := ?_) rfl rfl (by kernel_rfl) (by kernel_rfl) (by kernel_rfl) (fun _ _ _ h => h) (by rfl) ?_ hS3 ?_
        rotate_left
        · intro w' hSw; obtain ⟨a0, a1, a2, a3, a4, a5, a6, _⟩ := blk7 (Blk.below hVa hSw hVa.lt); obtain ⟨b0, b1, b2, b3, b4, b5, b6, _⟩ := blk7 (Blk.below hVb hSw hVb.lt); go_simp <;> with_reducible rfl
        simp only [Act.put, List.setIfInBounds_toArray, List.set_cons_zero, List.set_cons_succ]
        refine wpAnyH_yes (i := 24) (d := 50) (v := ?_) rfl rfl (by kernel_rfl) (by kernel_rfl) (by kernel_rfl) (fun _ _ _ h => h) (by rfl) ?_ hS3 ?_
        rotate_left
        · intro w' hSw; obtain ⟨a0, a1, a2, a3, a4, a5, a6, _⟩ := blk7 (Blk.below hVa hSw hVa.lt); obtain ⟨b0, b1, b2, b3, b4, b5, b6, _⟩ := blk7 (Blk.below hVb hSw hVb.lt); go_simp <;> with_reducible rfl
        simp only [Act.put, List.setIfInBounds_toArray, List.set_cons_zero, List.set_cons_succ]
        refine wpAnyH_yes (i := 25) (d := 51) (v := ?_) rfl rfl (by kernel_rfl) (by kernel_rfl) (by kernel_rfl) (fun _ _ _ h => h) (by rfl) ?_ hS3 ?_
        rotate_left
        · intro w' hSw; obtain ⟨a0, a1, a2, a3, a4, a5, a6, _⟩ := blk7 (Blk.below hVa hSw hVa.lt); obtain ⟨b0, b1, b2, b3, b4, b5, b6, _⟩ := blk7 (Blk.below hVb hSw hVb.lt); go_simp <;> with_reducible rfl
        simp only [Act.put, List.setIfInBounds_toArray, List.set_cons_zero, List.set_cons_succ]
        refine wpAnyH_one (i := 23) (by kernel_rfl) rfl (by rfl) (fun Ka hKa => ?_)
        go_simp
        with_reducible refine (meet_at (⟨aK, alo, ahi, af, ag, ao, ano⟩ : Sp) (⟨bK, blo, bhi, bf, bg, bo, bno⟩ : Sp) hca hcb Xa ad ae Xb bd be x3 hla hsa hlb hsb hra3 hrb3).mono ?_
        rintro e x4 ⟨⟨pK, plo, phi, pf, pg, po, pno⟩, himp, hrlp, Xp, pd, pe, rfl, hlp, _, hop, hbp⟩
        dsimp only at hrlp hlp hop
        have hcp : Canon (⟨pK, plo, phi, pf, pg, po, pno⟩ : Sp) := himp.1
        have hsp : pd ≤ 1000 := by omega
        have hS4 := below_next hS3 (Nat.le_refl _) hbp
        have hra4 := hra3.below hbp
        clear hra3
        have hrb4 := hrb3.below hbp
        clear hrb3
        have hrp := Gives.rd hop
        clear hop
        go_wp2_with fail
        refine hKa.out _ _ hS4 ?_
        clear hKa Ka
        refine wpAnyH_one (i := 26) (by kernel_rfl) rfl (by rfl) (fun Ka hKa => ?_)
        go_simp
        with_reducible refine (meet_at (⟨bK, blo, bhi, bf, bg, bo, bno⟩ : Sp) (⟨aK, alo, ahi, af, ag, ao, ano⟩ : Sp) hcb hca Xb bd be Xa ad ae x4 hlb hsb hla hsa hrb4 hra4).mono ?_
        rintro e x5 ⟨⟨rK, rlo, rhi, rf, rg, ro, rno⟩, himr, hrlr, Xr, rd, re, rfl, hlr, _, hor, hbr⟩
        dsimp only at hrlr hlr hor
        have hcr : Canon (⟨rK, rlo, rhi, rf, rg, ro, rno⟩ : Sp) := himr.1
        have hsr : rd ≤ 1000 := by omega
        have hS5 := below_next hS4 (Nat.le_refl _) hbr
        have hra5 := hra4.below hbr
        clear hra4
        have hrb5 := hrb4.below hbr
        clear hrb4
        have hrp5 := hrp.below hbr
        clear hrp
        have hrr := Gives.rd hor
        clear hor
        go_wp2_with fail
        refine hKa.out _ _ hS5 ?_
        clear hKa Ka
        have hsm5 : decide ((⟨pK, plo, phi, pf, pg, po, pno⟩ : Sp) = (⟨rK, rlo, rhi, rf, rg, ro, rno⟩ : Sp)) = true := decide_eq_true (meet_turn himp himr)
        have hsl5 : pd ≤ 100000 := by omega
        have hsr5 : rd ≤ 100000 := by omega
        refine wpAnyH_one (i := 27) (by kernel_rfl) rfl (by rfl) (fun Ka hKa => ?_)
        go_simp
        with_reducible refine (refSame_is pK plo phi pf pg po Xp pd pe rK rlo rhi rf rg ro Xr rd re x5 pno rno hlp hsl5 hlr hsr5 hrp5 hrr true hsm5).mono ?_
        rintro e x6 ⟨rfl, hg5⟩
        have hS6 := below_next hS5 (Nat.le_refl _) hg5.below
        clear hsm5
        have hra6 := hra5.below hg5.below
        clear hra5
        have hrb6 := hrb5.below hg5.below
        clear hrb5
        have hrp6 := hrp5.below hg5.below
        clear hrp5
        have hrr6 := hrr.below hg5.below
        clear hrr
        go_wp2_with fail
        refine hKa.out _ _ hS6 ?_
        clear hKa Ka
        refine wpAnyH_yes (i := 28) (d := 54) (v := ?_) rfl rfl (by kernel_rfl) (by kernel_rfl) (by kernel_rfl) (fun _ _ _ h => h) (by rfl) ?_ hS6 ?_
        rotate_left
        · intro w' hSw; go_simp <;> with_reducible rfl
        simp only [Act.put, List.setIfInBounds_toArray, List.set_cons_zero, List.set_cons_succ]
        refine wpAnyH_yes (i := 29) (d := 55) (v := ?_) rfl rfl (by kernel_rfl) (by kernel_rfl) (by kernel_rfl) (fun _ _ _ h => h) (by rfl) ?_ hS6 ?_
        rotate_left
        · intro w' hSw; go_simp <;> with_reducible rfl
        simp only [Act.put, List.setIfInBounds_toArray, List.set_cons_zero, List.set_cons_succ]
        refine wpAnyH_yes (i := 30) (d := 56) (v := ?_) rfl rfl (by kernel_rfl) (by kernel_rfl) (by kernel_rfl) (fun _ _ _ h => h) (by rfl) ?_ hS6 ?_
        rotate_left
        · intro w' hSw; obtain ⟨a0, a1, a2, a3, a4, a5, a6, _⟩ := blk7 (Blk.below hVa hSw hVa.lt); obtain ⟨b0, b1, b2, b3, b4, b5, b6, _⟩ := blk7 (Blk.below hVb hSw hVb.lt); go_simp <;> with_reducible rfl
        simp only [Act.put, List.setIfInBounds_toArray, List.set_cons_zero, List.set_cons_succ]
        refine wpAnyH_yes (i := 31) (d := 57) (v := ?_) rfl rfl (by kernel_rfl) (by kernel_rfl) (by kernel_rfl) (fun _ _ _ h => h) (by rfl) ?_ hS6 ?_
        rotate_left
        · intro w' hSw; obtain ⟨a0, a1, a2, a3, a4, a5, a6, _⟩ := blk7 (Blk.below hVa hSw hVa.lt); obtain ⟨b0, b1, b2, b3, b4, b5, b6, _⟩ := blk7 (Blk.below hVb hSw hVb.lt); go_simp <;> with_reducible rfl
        simp only [Act.put, List.setIfInBounds_toArray, List.set_cons_zero, List.set_cons_succ]
        refine wpAnyH_yes (i := 33) (d := 59) (v := ?_) rfl rfl (by kernel_rfl) (by kernel_rfl) (by kernel_rfl) (fun _ _ _ h => h) (by rfl) ?_ hS6 ?_
        rotate_left
        · intro w' hSw; obtain ⟨a0, a1, a2, a3, a4, a5, a6, _⟩ := blk7 (Blk.below hVa hSw hVa.lt); obtain ⟨b0, b1, b2, b3, b4, b5, b6, _⟩ := blk7 (Blk.below hVb hSw hVb.lt); go_simp <;> with_reducible rfl
        simp only [Act.put, List.setIfInBounds_toArray, List.set_cons_zero, List.set_cons_succ]
        refine wpAnyH_one (i := 32) (by kernel_rfl) rfl (by rfl) (fun Ka hKa => ?_)
        go_simp
        with_reducible refine (meet_at (⟨aK, alo, ahi, af, ag, ao, ano⟩ : Sp) (⟨bK, blo, bhi, bf, bg, bo, bno⟩ : Sp) hca hcb Xa ad ae Xb bd be x6 hla hsa hlb hsb hra6 hrb6).mono ?_
        rintro e x7 ⟨⟨uK, ulo, uhi, uf, ug, uo, uno⟩, himu, hrlu, Xu, ud, ue, rfl, hlu, _, hou, hbu⟩
        dsimp only at hrlu hlu hou
        have hcu : Canon (⟨uK, ulo, uhi, uf, ug, uo, uno⟩ : Sp) := himu.1
        have hsu : ud ≤ 1000 := by omega
        have hS7 := below_next hS6 (Nat.le_refl _) hbu
        have hra7 := hra6.below hbu
        clear hra6
        have hrb7 := hrb6.below hbu
        clear hrb6
        have hrp7 := hrp6.below hbu
        clear hrp6
        have hrr7 := hrr6.below hbu
        clear hrr6
        have hru := Gives.rd hou
        clear hou
        go_wp2_with fail
        refine hKa.out _ _ hS7 ?_
        clear hKa Ka
        have hin7 : inn (⟨uK, ulo, uhi, uf, ug, uo, uno⟩ : Sp) (⟨aK, alo, ahi, af, ag, ao, ano⟩ : Sp) = true := meet_in himu hca
        refine wpAnyH_one (i := 34) (by kernel_rfl) rfl (by rfl) (fun Ka hKa => ?_)
        go_simp
        with_reducible refine (in_at (⟨uK, ulo, uhi, uf, ug, uo, uno⟩ : Sp) (⟨aK, alo, ahi, af, ag, ao, ano⟩ : Sp) hcu hca Xu ud ue Xa ad ae x7 hlu hsu hla hsa hru hra7 true hin7).mono ?_
        rintro e x8 ⟨rfl, hg7⟩
        have hS8 := below_next hS7 (Nat.le_refl _) hg7
        clear hin7
        have hra8 := hra7.below hg7
        clear hra7
        have hrb8 := hrb7.below hg7
        clear hrb7
        have hrp8 := hrp7.below hg7
        clear hrp7
        have hrr8 := hrr7.below hg7
        clear hrr7
        have hru8 := hru.below hg7
        clear hru
        go_wp2_with fail
        refine hKa.out _ _ hS8 ?_
        clear hKa Ka
        refine wpAnyH_yes (i := 35) (d := 61) (v := ?_) rfl rfl (by kernel_rfl) (by kernel_rfl) (by kernel_rfl) (fun _ _ _ h => h) (by rfl) ?_ hS8 ?_
        rotate_left
        · intro w' hSw; go_simp <;> with_reducible rfl
        simp only [Act.put, List.setIfInBounds_toArray, List.set_cons_zero, List.set_cons_succ]
        refine wpAnyH_yes (i := 36) (d := 62) (v := ?_) rfl rfl (by kernel_rfl) (by kernel_rfl) (by kernel_rfl) (fun _ _ _ h => h) (by rfl) ?_ hS8 ?_
        rotate_left
        · intro w' hSw; go_simp <;> with_reducible rfl
        simp only [Act.put, List.setIfInBounds_toArray, List.set_cons_zero, List.set_cons_succ]
        refine wpAnyH_yes (i := 37) (d := 63) (v := ?_) rfl rfl (by kernel_rfl) (by kernel_rfl) (by kernel_rfl) (fun _ _ _ h => h) (by rfl) ?_ hS8 ?_
        rotate_left
        · intro w' hSw; obtain ⟨a0, a1, a2, a3, a4, a5, a6, _⟩ := blk7 (Blk.below hVa hSw hVa.lt); obtain ⟨b0, b1, b2, b3, b4, b5, b6, _⟩ := blk7 (Blk.below hVb hSw hVb.lt); go_simp <;> with_reducible rfl
        simp only [Act.put, List.setIfInBounds_toArray, List.set_cons_zero, List.set_cons_succ]
        refine wpAnyH_yes (i := 38) (d := 64) (v := ?_) rfl rfl (by kernel_rfl) (by kernel_rfl) (by kernel_rfl) (fun _ _ _ h => h) (by rfl) ?_ hS8 ?_
        rotate_left
        · intro w' hSw; obtain ⟨a0, a1, a2, a3, a4, a5, a6, _⟩ := blk7 (Blk.below hVa hSw hVa.lt); obtain ⟨b0, b1, b2, b3, b4, b5, b6, _⟩ := blk7 (Blk.below hVb hSw hVb.lt); go_simp <;> with_reducible rfl
        simp only [Act.put, List.setIfInBounds_toArray, List.set_cons_zero, List.set_cons_succ]
        refine wpAnyH_yes (i := 40) (d := 66) (v := ?_) rfl rfl (by kernel_rfl) (by kernel_rfl) (by kernel_rfl) (fun _ _ _ h => h) (by rfl) ?_ hS8 ?_
        rotate_left
        · intro w' hSw; obtain ⟨a0, a1, a2, a3, a4, a5, a6, _⟩ := blk7 (Blk.below hVa hSw hVa.lt); obtain ⟨b0, b1, b2, b3, b4, b5, b6, _⟩ := blk7 (Blk.below hVb hSw hVb.lt); go_simp <;> with_reducible rfl
        simp only [Act.put, List.setIfInBounds_toArray, List.set_cons_zero, List.set_cons_succ]
        refine wpAnyH_yes (i := 41) (d := 67) (v := ?_) rfl rfl (by kernel_rfl) (by kernel_rfl) (by kernel_rfl) (fun _ _ _ h => h) (by rfl) ?_ hS8 ?_
        rotate_left
        · intro w' hSw; obtain ⟨a0, a1, a2, a3, a4, a5, a6, _⟩ := blk7 (Blk.below hVa hSw hVa.lt); obtain ⟨b0, b1, b2, b3, b4, b5, b6, _⟩ := blk7 (Blk.below hVb hSw hVb.lt); go_simp <;> with_reducible rfl
        simp only [Act.put, List.setIfInBounds_toArray, List.set_cons_zero, List.set_cons_succ]
        refine wpAnyH_yes (i := 43) (d := 69) (v := ?_) rfl rfl (by kernel_rfl) (by kernel_rfl) (by kernel_rfl) (fun _ _ _ h => h) (by rfl) ?_ hS8 ?_
        rotate_left
        · intro w' hSw; obtain ⟨a0, a1, a2, a3, a4, a5, a6, _⟩ := blk7 (Blk.below hVa hSw hVa.lt); obtain ⟨b0, b1, b2, b3, b4, b5, b6, _⟩ := blk7 (Blk.below hVb hSw hVb.lt); go_simp <;> with_reducible rfl
        simp only [Act.put, List.setIfInBounds_toArray, List.set_cons_zero, List.set_cons_succ]
        have hin8 : inn (⟨aK, alo, ahi, af, ag, ao, ano⟩ : Sp) (⟨bK, blo, bhi, bf, bg, bo, bno⟩ : Sp) = false := HQ1.out
        refine wpAnyH_one (i := 39) (by kernel_rfl) rfl (by rfl) (fun Ka hKa => ?_)
        go_simp
        with_reducible refine (in_at (⟨aK, alo, ahi, af, ag, ao, ano⟩ : Sp) (⟨bK, blo, bhi, bf, bg, bo, bno⟩ : Sp) hca hcb Xa ad ae Xb bd be x8 hla hsa hlb hsb hra8 hrb8 false hin8).mono ?_
        rintro e x9 ⟨rfl, hg8⟩
        have hS9 := below_next hS8 (Nat.le_refl _) hg8
        clear hin8
        have hra9 := hra8.below hg8
        clear hra8
        have hrb9 := hrb8.below hg8
        clear hrb8
        have hrp9 := hrp8.below hg8
        clear hrp8
        have hrr9 := hrr8.below hg8
        clear hrr8
        have hru9 := hru8.below hg8
        clear hru8
        go_wp2_with fail
        refine hKa.out _ _ hS9 ?_
        clear hKa Ka
        refine wpAnyH_one (i := 42) (by kernel_rfl) rfl (by rfl) (fun Ka hKa => ?_)
        go_simp
        with_reducible refine (meet_at (⟨aK, alo, ahi, af, ag, ao, ano⟩ : Sp) (⟨bK, blo, bhi, bf, bg, bo, bno⟩ : Sp) hca hcb Xa ad ae Xb bd be x9 hla hsa hlb hsb hra9 hrb9).mono ?_
        rintro e x10 ⟨⟨vK, vlo, vhi, vf, vg, vo, vno⟩, himv, hrlv, Xv, vd, ve, rfl, hlv, _, hov, hbv⟩
        dsimp only at hrlv hlv hov
        have hcv : Canon (⟨vK, vlo, vhi, vf, vg, vo, vno⟩ : Sp) := himv.1
        have hsv : vd ≤ 1000 := by omega
        have hS10 := below_next hS9 (Nat.le_refl _) hbv
        have hra10 := hra9.below hbv
        clear hra9
        have hrb10 := hrb9.below hbv
        clear hrb9
        have hrp10 := hrp9.below hbv
        clear hrp9
        have hrr10 := hrr9.below hbv
        clear hrr9
        have hru10 := hru9.below hbv
        clear hru9
        have hrv := Gives.rd hov
        clear hov
        go_wp2_with fail
        refine hKa.out _ _ hS10 ?_
        clear hKa Ka
        have hsm10 : decide ((⟨vK, vlo, vhi, vf, vg, vo, vno⟩ : Sp) = (⟨aK, alo, ahi, af, ag, ao, ano⟩ : Sp)) = false := (in_meet hca hcb himv).trans HQ1.out
        have hsl10 : vd ≤ 100000 := by omega
        have hsr10 : ad ≤ 100000 := by omega
        refine wpAnyH_one (i := 44) (by kernel_rfl) rfl (by rfl) (fun Ka hKa => ?_)
        go_simp
        with_reducible refine (refSame_is vK vlo vhi vf vg vo Xv vd ve aK alo ahi af ag ao Xa ad ae x10 vno ano hlv hsl10 hla hsr10 hrv hra10 false hsm10).mono ?_
        rintro e x11 ⟨rfl, hg10⟩
        have hS11 := below_next hS10 (Nat.le_refl _) hg10.below
        clear hsm10
        have hra11 := hra10.below hg10.below
        clear hra10
        have hrb11 := hrb10.below hg10.below
        clear hrb10
        have hrp11 := hrp10.below hg10.below
        clear hrp10
        have hrr11 := hrr10.below hg10.below
        clear hrr10
        have hru11 := hru10.below hg10.below
        clear hru10
        have hrv11 := hrv.below hg10.below
        clear hrv
        go_wp2_with fail
        refine hKa.out _ _ hS11 ?_
        clear hKa Ka
        refine wpAnyH_yes (i := 45) (d := 71) (v := ?_) rfl rfl (by kernel_rfl) (by kernel_rfl) (by kernel_rfl) (fun _ _ _ h => h) (by rfl) ?_ hS11 ?_
        rotate_left
        · intro w' hSw; go_simp <;> with_reducible rfl
        simp only [Act.put, List.setIfInBounds_toArray, List.set_cons_zero, List.set_cons_succ]
        refine wpAnyH_yes (i := 46) (d := 72) (v := ?_) rfl rfl (by kernel_rfl) (by kernel_rfl) (by kernel_rfl) (fun _ _ _ h => h) (by rfl) ?_ hS11 ?_
        rotate_left
        · intro w' hSw; go_simp <;> with_reducible rfl
        simp only [Act.put, List.setIfInBounds_toArray, List.set_cons_zero, List.set_cons_succ]
        refine wpAnyH_yes (i := 47) (d := 4) (v := ?_) rfl rfl (by kernel_rfl) (by kernel_rfl) (by kernel_rfl) (fun _ _ _ h => h) (by rfl) ?_ hS11 ?_
        rotate_left
        · intro w' hSw; go_simp <;> with_reducible rfl
        simp only [Act.put, List.setIfInBounds_toArray, List.set_cons_zero, List.set_cons_succ]
        refine wpAnyH_done (by kernel_rfl) ?_ _
        go_wp2_with fail
        go_ret
        exact ⟨rfl, below_next HBD.out (by have := HBD.out.size; omega) hS11⟩
      | true =>
        cases hq2 : inn (⟨bK, blo, bhi, bf, bg, bo, bno⟩ : Sp) (⟨aK, alo, ahi, af, ag, ao, ano⟩ : Sp) with
        | false =>
          have HQ1 := Lib.hid hq1
          have HQ2 := Lib.hid hq2
          have HSM : Hid (decide ((⟨aK, alo, ahi, af, ag, ao, ano⟩ : Sp) = (⟨bK, blo, bhi, bf, bg, bo, bno⟩ : Sp)) = false) := by show _ = _; rw [hsm, hq1, hq2]; rfl
          clear hsm hq1 hq2
          refine wpAnyH_yes (i := 0) (d := 26) (v := ?_) rfl rfl (by kernel_rfl) (by kernel_rfl) (by kernel_rfl) (fun _ _ _ h => h) (by rfl) ?_ hS0 ?_
          rotate_left
          · intro w' hSw; go_simp <;> with_reducible rfl
          simp only [Act.put, List.setIfInBounds_toArray, List.set_cons_zero, List.set_cons_succ]
          refine wpAnyH_yes (i := 1) (d := 27) (v := ?_) rfl rfl (by kernel_rfl) (by kernel_rfl) (by kernel_rfl) (fun _ _ _ h => h) (by rfl) ?_ hS0 ?_
          rotate_left
          · intro w' hSw; go_simp <;> with_reducible rfl
          simp only [Act.put, List.setIfInBounds_toArray, List.set_cons_zero, List.set_cons_succ]
          refine wpAnyH_yes (i := 2) (d := 28) (v := ?_) rfl rfl (by kernel_rfl) (by kernel_rfl) (by kernel_rfl) (fun _ _ _ h => h) (by rfl) ?_ hS0 ?_
          rotate_left
          · intro w' hSw; obtain ⟨a0, a1, a2, a3, a4, a5, a6, _⟩ := blk7 (Blk.below hVa hSw hVa.lt); obtain ⟨b0, b1, b2, b3, b4, b5, b6, _⟩ := blk7 (Blk.below hVb hSw hVb.lt); go_simp <;> with_reducible rfl
          simp only [Act.put, List.setIfInBounds_toArray, List.set_cons_zero, List.set_cons_succ]
          refine wpAnyH_yes (i := 3) (d := 29) (v := ?_) rfl rfl (by kernel_rfl) (by kernel_rfl) (by kernel_rfl) (fun _ _ _ h => h) (by rfl) ?_ hS0 ?_
          rotate_left
          · intro w' hSw; obtain ⟨a0, a1, a2, a3, a4, a5, a6, _⟩ := blk7 (Blk.below hVa hSw hVa.lt); obtain ⟨b0, b1, b2, b3, b4, b5, b6, _⟩ := blk7 (Blk.below hVb hSw hVb.lt); go_simp <;> with_reducible rfl
          simp only [Act.put, List.setIfInBounds_toArray, List.set_cons_zero, List.set_cons_succ]
          refine wpAnyH_yes (i := 10) (d := 36) (v := ?_) rfl rfl (by kernel_rfl) (by kernel_rfl) (by kernel_rfl) (fun _ _ _ h => h) (by rfl) ?_ hS0 ?_
          rotate_left
          · intro w' hSw; obtain ⟨a0, a1, a2, a3, a4, a5, a6, _⟩ := blk7 (Blk.below hVa hSw hVa.lt); obtain ⟨b0, b1, b2, b3, b4, b5, b6, _⟩ := blk7 (Blk.below hVb hSw hVb.lt); go_simp <;> with_reducible rfl
          simp only [Act.put, List.setIfInBounds_toArray, List.set_cons_zero, List.set_cons_succ]
          refine wpAnyH_yes (i := 11) (d := 37) (v := ?_) rfl rfl (by kernel_rfl) (by kernel_rfl) (by kernel_rfl) (fun _ _ _ h => h) (by rfl) ?_ hS0 ?_
          rotate_left
          · intro w' hSw; obtain ⟨a0, a1, a2, a3, a4, a5, a6, _⟩ := blk7 (Blk.below hVa hSw hVa.lt); obtain ⟨b0, b1, b2, b3, b4, b5, b6, _⟩ := blk7 (Blk.below hVb hSw hVb.lt); go_simp <;> with_reducible rfl
          simp only [Act.put, List.setIfInBounds_toArray, List.set_cons_zero, List.set_cons_succ]
          have hin0 : inn (⟨aK, alo, ahi, af, ag, ao, ano⟩ : Sp) (⟨bK, blo, bhi, bf, bg, bo, bno⟩ : Sp) = true := HQ1.out
          refine wpAnyH_one (i := 4) (by kernel_rfl) rfl (by rfl) (fun Ka hKa => ?_)
          go_simp
          with_reducible refine (in_at (⟨aK, alo, ahi, af, ag, ao, ano⟩ : Sp) (⟨bK, blo, bhi, bf, bg, bo, bno⟩ : Sp) hca hcb Xa ad ae Xb bd be x0 hla hsa hlb hsb hra0 hrb0 true hin0).mono ?_
          rintro e x1 ⟨rfl, hg0⟩
          have hS1 := below_next hS0 (Nat.le_refl _) hg0
          clear hin0
          have hra1 := hra0.below hg0
          clear hra0
          have hrb1 := hrb0.below hg0
          clear hrb0
          go_wp2_with fail
          refine hKa.out _ _ hS1 ?_
          clear hKa Ka
          refine wpAnyH_yes (i := 5) (d := 31) (v := ?_) rfl rfl (by kernel_rfl) (by kernel_rfl) (by kernel_rfl) (fun _ _ _ h => h) (by rfl) ?_ hS1 ?_
          rotate_left
          · intro w' hSw; go_simp <;> with_reducible rfl
          simp only [Act.put, List.setIfInBounds_toArray, List.set_cons_zero, List.set_cons_succ]
          refine wpAnyH_yes (i := 6) (d := 32) (v := ?_) rfl rfl (by kernel_rfl) (by kernel_rfl) (by kernel_rfl) (fun _ _ _ h => h) (by rfl) ?_ hS1 ?_
          rotate_left
          · intro w' hSw; obtain ⟨a0, a1, a2, a3, a4, a5, a6, _⟩ := blk7 (Blk.below hVa hSw hVa.lt); obtain ⟨b0, b1, b2, b3, b4, b5, b6, _⟩ := blk7 (Blk.below hVb hSw hVb.lt); go_simp <;> with_reducible rfl
          simp only [Act.put, List.setIfInBounds_toArray, List.set_cons_zero, List.set_cons_succ]
          refine wpAnyH_yes (i := 7) (d := 33) (v := ?_) rfl rfl (by kernel_rfl) (by kernel_rfl) (by kernel_rfl) (fun _ _ _ h => h) (by rfl) ?_ hS1 ?_
          rotate_left
          · intro w' hSw; obtain ⟨a0, a1, a2, a3, a4, a5, a6, _⟩ := blk7 (Blk.below hVa hSw hVa.lt); obtain ⟨b0, b1, b2, b3, b4, b5, b6, _⟩ := blk7 (Blk.below hVb hSw hVb.lt); go_simp <;> with_reducible rfl
          simp only [Act.put, List.setIfInBounds_toArray, List.set_cons_zero, List.set_cons_succ]
          have hin1 : inn (⟨bK, blo, bhi, bf, bg, bo, bno⟩ : Sp) (⟨aK, alo, ahi, af, ag, ao, ano⟩ : Sp) = false := HQ2.out
          refine wpAnyH_one (i := 8) (by kernel_rfl) rfl (by rfl) (fun Ka hKa => ?_)
          go_simp
          with_reducible refine (in_at (⟨bK, blo, bhi, bf, bg, bo, bno⟩ : Sp) (⟨aK, alo, ahi, af, ag, ao, ano⟩ : Sp) hcb hca Xb bd be Xa ad ae x1 hlb hsb hla hsa hrb1 hra1 false hin1).mono ?_
          rintro e x2 ⟨rfl, hg1⟩
          have hS2 := below_next hS1 (Nat.le_refl _) hg1
          clear hin1
          have hra2 := hra1.below hg1
          clear hra1
          have hrb2 := hrb1.below hg1
          clear hrb1
          go_wp2_with fail
          refine hKa.out _ _ hS2 ?_
          clear hKa Ka
          refine wpAnyH_yes (i := 9) (d := 35) (v := ?_) rfl rfl (by kernel_rfl) (by kernel_rfl) (by kernel_rfl) (fun _ _ _ h => h) (by rfl) ?_ hS2 ?_
          rotate_left
          · intro w' hSw; go_simp <;> with_reducible rfl
          simp only [Act.put, List.setIfInBounds_toArray, List.set_cons_zero, List.set_cons_succ]
          have hsm2 : decide ((⟨aK, alo, ahi, af, ag, ao, ano⟩ : Sp) = (⟨bK, blo, bhi, bf, bg, bo, bno⟩ : Sp)) = false := HSM.out
          have hsl2 : ad ≤ 100000 := by omega
          have hsr2 : bd ≤ 100000 := by omega
          refine wpAnyH_one (i := 12) (by kernel_rfl) rfl (by rfl) (fun Ka hKa => ?_)
          go_simp
          with_reducible refine (refSame_is aK alo ahi af ag ao Xa ad ae bK blo bhi bf bg bo Xb bd be x2 ano bno hla hsl2 hlb hsr2 hra2 hrb2 false hsm2).mono ?_
          rintro e x3 ⟨rfl, hg2⟩
          have hS3 := below_next hS2 (Nat.le_refl _) hg2.below
          clear hsm2
          have hra3 := hra2.below hg2.below
          clear hra2
          have hrb3 := hrb2.below hg2.below
          clear hrb2
          go_wp2_with fail
          refine hKa.out _ _ hS3 ?_
          clear hKa Ka
          refine wpAnyH_yes (i := 13) (d := 39) (v := ?_) rfl rfl (by kernel_rfl) (by kernel_rfl) (by kernel_rfl) (fun _ _ _ h => h) (by rfl) ?_ hS3 ?_
          rotate_left
          · intro w' hSw; go_simp <;> with_reducible rfl
          simp only [Act.put, List.setIfInBounds_toArray, List.set_cons_zero, List.set_cons_succ]
          refine wpAnyH_yes (i := 14) (d := 40) (v := ?_) rfl rfl (by kernel_rfl) (by kernel_rfl) (by kernel_rfl) (fun _ _ _ h => h) (by rfl) ?_ hS3 ?_
          rotate_left
          · intro w' hSw; go_simp <;> with_reducible rfl
          simp only [Act.put, List.setIfInBounds_toArray, List.set_cons_zero, List.set_cons_succ]
          refine wpAnyH_yes (i := 15) (d := 41) (v := ?_) rfl rfl (by kernel_rfl) (by kernel_rfl) (by kernel_rfl) (fun _ _ _ h => h) (by rfl) ?_ hS3 ?_
          rotate_left
          · intro w' hSw; go_simp <;> with_reducible rfl
          simp only [Act.put, List.setIfInBounds_toArray, List.set_cons_zero, List.set_cons_succ]
          refine wpAnyH_yes (i := 16) (d := 42) (v := ?_) rfl rfl (by kernel_rfl) (by kernel_rfl) (by kernel_rfl) (fun _ _ _ h => h) (by rfl) ?_ hS3 ?_
          rotate_left
          · intro w' hSw; obtain ⟨a0, a1, a2, a3, a4, a5, a6, _⟩ := blk7 (Blk.below hVa hSw hVa.lt); obtain ⟨b0, b1, b2, b3, b4, b5, b6, _⟩ := blk7 (Blk.below hVb hSw hVb.lt); go_simp <;> with_reducible rfl
          simp only [Act.put, List.setIfInBounds_toArray, List.set_cons_zero, List.set_cons_succ]
          refine wpAnyH_yes (i := 17) (d := 43) (v := ?_) rfl rfl (by kernel_rfl) (by kernel_rfl) (by kernel_rfl) (fun _ _ _ h => h) (by rfl) ?_ hS3 ?_
          rotate_left
          · intro w' hSw; obtain ⟨a0, a1, a2, a3, a4, a5, a6, _⟩ := blk7 (Blk.below hVa hSw hVa.lt); obtain ⟨b0, b1, b2, b3, b4, b5, b6, _⟩ := blk7 (Blk.below hVb hSw hVb.lt); go_simp <;> with_reducible rfl
          simp only [Act.put, List.setIfInBounds_toArray, List.set_cons_zero, List.set_cons_succ]
          have hin3 : inn (⟨aK, alo, ahi, af, ag, ao, ano⟩ : Sp) (⟨aK, alo, ahi, af, ag, ao, ano⟩ : Sp) = true := HAA.out
          refine wpAnyH_one (i := 18) (by kernel_rfl) rfl (by rfl) (fun Ka hKa => ?_)
          go_simp
          with_reducible refine (in_at (⟨aK, alo, ahi, af, ag, ao, ano⟩ : Sp) (⟨aK, alo, ahi, af, ag, ao, ano⟩ : Sp) hca hca Xa ad ae Xa ad ae x3 hla hsa hla hsa hra3 hra3 true hin3).mono ?_
          rintro e x4 ⟨rfl, hg3⟩
          have hS4 := below_next hS3 (Nat.le_refl _) hg3
          clear hin3
          have hra4 := hra3.below hg3
          clear hra3
          have hrb4 := hrb3.below hg3
          clear hrb3
          go_wp2_with fail
          refine hKa.out _ _ hS4 ?_
          clear hKa Ka
          refine wpAnyH_yes (i := 19) (d := 45) (v := ?_) rfl rfl (by kernel_rfl) (by kernel_rfl) (by kernel_rfl) (fun _ _ _ h => h) (by rfl) ?_ hS4 ?_
          rotate_left
          · intro w' hSw; go_simp <;> with_reducible rfl
          simp only [Act.put, List.setIfInBounds_toArray, List.set_cons_zero, List.set_cons_succ]
          refine wpAnyH_yes (i := 20) (d := 46) (v := ?_) rfl rfl (by kernel_rfl) (by kernel_rfl) (by kernel_rfl) (fun _ _ _ h => h) (by rfl) ?_ hS4 ?_
          rotate_left
          · intro w' hSw; go_simp <;> with_reducible rfl
          simp only [Act.put, List.setIfInBounds_toArray, List.set_cons_zero, List.set_cons_succ]
          refine wpAnyH_yes (i := 21) (d := 47) (v := ?_) rfl rfl (by kernel_rfl) (by kernel_rfl) (by kernel_rfl) (fun _ _ _ h => h) (by rfl) ?_ hS4 ?_
          rotate_left
          · intro w' hSw; obtain ⟨a0, a1, a2, a3, a4, a5, a6, _⟩ := blk7 (Blk.below hVa hSw hVa.lt); obtain ⟨b0, b1, b2, b3, b4, b5, b6, _⟩ := blk7 (Blk.below hVb hSw hVb.lt); go_simp <;> with_reducible rfl
          simp only [Act.put, List.setIfInBounds_toArray, List.set_cons_zero, List.set_cons_succ]
          refine wpAnyH_yes (i := 22) (d := 48) (v := ?_) rfl rfl (by kernel_rfl) (by kernel_rfl) (by kernel_rfl) (fun _ _ _ h => h) (by rfl) ?_ hS4 ?_
          rotate_left
          · intro w' hSw; obtain ⟨a0, a1, a2, a3, a4, a5, a6, _⟩ := blk7 (Blk.below hVa hSw hVa.lt); obtain ⟨b0, b1, b2, b3, b4, b5, b6, _⟩ := blk7 (Blk.below hVb hSw hVb.lt); go_simp <;> with_reducible rfl
          simp only [Act.put, List.setIfInBounds_toArray, List.set_cons_zero, List.set_cons_succ]
          refine wpAnyH_yes (i := 24) (d := 50) (v := ?_) rfl rfl (by kernel_rfl) (by kernel_rfl) (by kernel_rfl) (fun _ _ _ h => h) (by rfl) ?_ hS4 ?_
          rotate_left
          · intro w' hSw; obtain ⟨a0, a1, a2, a3, a4, a5, a6, _⟩ := blk7 (Blk.below hVa hSw hVa.lt); obtain ⟨b0, b1, b2, b3, b4, b5, b6, _⟩ := blk7 (Blk.below hVb hSw hVb.lt); go_simp <;> with_reducible rfl
          simp only [Act.put, List.setIfInBounds_toArray, List.set_cons_zero, List.set_cons_succ]
          refine wpAnyH_yes (i := 25) (d := 51) (v := ?_) rfl rfl (by kernel_rfl) (by kernel_rfl) (by kernel_rfl) (fun _ _ _ h => h) (by rfl) ?_ hS4 ?_
          rotate_left
          · intro w' hSw; obtain ⟨a0, a1, a2, a3, a4, a5, a6, _⟩ := blk7 (Blk.below hVa hSw hVa.lt); obtain ⟨b0, b1, b2, b3, b4, b5, b6, _⟩ := blk7 (Blk.below hVb hSw hVb.lt); go_simp <;> with_reducible rfl
          simp only [Act.put, List.setIfInBounds_toArray, List.set_cons_zero, List.set_cons_succ]
          refine wpAnyH_one (i := 23) (by kernel_rfl) rfl (by rfl) (fun Ka hKa => ?_)
          go_simp
          with_reducible refine (meet_at (⟨aK, alo, ahi, af, ag, ao, ano⟩ : Sp) (⟨bK, blo, bhi, bf, bg, bo, bno⟩ : Sp) hca hcb Xa ad ae Xb bd be x4 hla hsa hlb hsb hra4 hrb4).mono ?_
          rintro e x5 ⟨⟨pK, plo, phi, pf, pg, po, pno⟩, himp, hrlp, Xp, pd, pe, rfl, hlp, _, hop, hbp⟩
          dsimp only at hrlp hlp hop
          have hcp : Canon (⟨pK, plo, phi, pf, pg, po, pno⟩ : Sp) := himp.1
          have hsp : pd ≤ 1000 := by omega
          have hS5 := below_next hS4 (Nat.le_refl _) hbp
          have hra5 := hra4.below hbp
          clear hra4
          have hrb5 := hrb4.below hbp
          clear hrb4
          have hrp := Gives.rd hop
          clear hop
          go_wp2_with fail
          refine hKa.out _ _ hS5 ?_
          clear hKa Ka
          refine wpAnyH_one (i := 26) (by kernel_rfl) rfl (by rfl) (fun Ka hKa => ?_)
          go_simp
          with_reducible refine (meet_at (⟨bK, blo, bhi, bf, bg, bo, bno⟩ : Sp) (⟨aK, alo, ahi, af, ag, ao, ano⟩ : Sp) hcb hca Xb bd be Xa ad ae x5 hlb hsb hla hsa hrb5 hra5).mono ?_
          rintro e x6 ⟨⟨rK, rlo, rhi, rf, rg, ro, rno⟩, himr, hrlr, Xr, rd, re, rfl, hlr, _, hor, hbr⟩
          dsimp only at hrlr hlr hor
          have hcr : Canon (⟨rK, rlo, rhi, rf, rg, ro, rno⟩ : Sp) := himr.1
          have hsr : rd ≤ 1000 := by omega
          have hS6 := below_next hS5 (Nat.le_refl _) hbr
          have hra6 := hra5.below hbr
          clear hra5
          have hrb6 := hrb5.below hbr
          clear hrb5
          have hrp6 := hrp.below hbr
          clear hrp
          have hrr := Gives.rd hor
          clear hor
          go_wp2_with fail
          refine hKa.out _ _ hS6 ?_
          clear hKa Ka
          have hsm6 : decide ((⟨pK, plo, phi, pf, pg, po, pno⟩ : Sp) = (⟨rK, rlo, rhi, rf, rg, ro, rno⟩ : Sp)) = true := decide_eq_true (meet_turn himp himr)
          have hsl6 : pd ≤ 100000 := by omega
          have hsr6 : rd ≤ 100000 := by omega
          refine wpAnyH_one (i := 27) (by kernel_rfl) rfl (by rfl) (fun Ka hKa => ?_)
          go_simp
          with_reducible refine (refSame_is pK plo phi pf pg po Xp pd pe rK rlo rhi rf rg ro Xr rd re x6 pno rno hlp hsl6 hlr hsr6 hrp6 hrr true hsm6).mono ?_
          rintro e x7 ⟨rfl, hg6⟩
          have hS7 := below_next hS6 (Nat.le_refl _) hg6.below
          clear hsm6
          have hra7 := hra6.below hg6.below
          clear hra6
          have hrb7 := hrb6.below hg6.below
          clear hrb6
          have hrp7 := hrp6.below hg6.below
          clear hrp6
          have hrr7 := hrr.below hg6.below
          clear hrr
          go_wp2_with fail
          refine hKa.out _ _ hS7 ?_
          clear hKa Ka
          refine wpAnyH_yes (i := 28) (d := 54) (v := ?_) rfl rfl (by kernel_rfl) (by kernel_rfl) (by kernel_rfl) (fun _ _ _ h => h) (by rfl) ?_ hS7 ?_
          rotate_left
          · intro w' hSw; go_simp <;> with_reducible rfl
          simp only [Act.put, List.setIfInBounds_toArray, List.set_cons_zero, List.set_cons_succ]
          refine wpAnyH_yes (i := 29) (d := 55) (v := ?_) rfl rfl (by kernel_rfl) (by kernel_rfl) (by kernel_rfl) (fun _ _ _ h => h) (by rfl) ?_ hS7 ?_
          rotate_left
          · intro w' hSw; go_simp <;> with_reducible rfl
          simp only [Act.put, List.setIfInBounds_toArray, List.set_cons_zero, List.set_cons_succ]
          refine wpAnyH_yes (i := 30) (d := 56) (v := ?_) rfl rfl (by kernel_rfl) (by kernel_rfl) (by kernel_rfl) (fun _ _ _ h => h) (by rfl) ?_ hS7 ?_
          rotate_left
          · intro w' hSw; obtain ⟨a0, a1, a2, a3, a4, a5, a6, _⟩ := blk7 (Blk.below hVa hSw hVa.lt); obtain ⟨b0, b1, b2, b3, b4, b5, b6, _⟩ := blk7 (Blk.below hVb hSw hVb.lt); go_simp <;> with_reducible rfl
          simp only [Act.put, List.setIfInBounds_toArray, List.set_cons_zero, List.set_cons_succ]
          refine wpAnyH_yes (i := 31) (d := 57) (v := ?_) rfl rfl (by kernel_rfl) (by kernel_rfl) (by kernel_rfl) (fun _ _ _ h => h) (by rfl) ?_ hS7 ?_
          rotate_left
          · intro w' hSw; obtain ⟨a0, a1, a2, a3, a4, a5, a6, _⟩ := blk7 (Blk.below hVa hSw hVa.lt); obtain ⟨b0, b1, b2, b3, b4, b5, b6, _⟩ := blk7 (Blk.below hVb hSw hVb.lt); go_simp <;> with_reducible rfl
          simp only [Act.put, List.setIfInBounds_toArray, List.set_cons_zero, List.set_cons_succ]
          refine wpAnyH_yes (i := 33) (d := 59) (v := ?_) rfl rfl (by kernel_rfl) (by kernel_rfl) (by kernel_rfl) (fun _ _ _ h => h) (by rfl) ?_ hS7 ?_
          rotate_left
          · intro w' hSw; obtain ⟨a0, a1, a2, a3, a4, a5, a6, _⟩ := blk7 (Blk.below hVa hSw hVa.lt); obtain ⟨b0, b1, b2, b3, b4, b5, b6, _⟩ := blk7 (Blk.below hVb hSw hVb.lt); go_simp <;> with_reducible rfl
          simp only [Act.put, List.setIfInBounds_toArray, List.set_cons_zero, List.set_cons_succ]
          refine wpAnyH_one (i := 32) (by kernel_rfl) rfl (by rfl) (fun Ka hKa => ?_)
          go_simp
          with_reducible refine (meet_at (⟨aK, alo, ahi, af, ag, ao, ano⟩ : Sp) (⟨bK, blo, bhi, bf, bg, bo, bno⟩ : Sp) hca hcb Xa ad ae Xb bd be x7 hla hsa hlb hsb hra7 hrb7).mono ?_
          rintro e x8 ⟨⟨uK, ulo, uhi, uf, ug, uo, uno⟩, himu, hrlu, Xu, ud, ue, rfl, hlu, _, hou, hbu⟩
          dsimp only at hrlu hlu hou
          have hcu : Canon (⟨uK, ulo, uhi, uf, ug, uo, uno⟩ : Sp) := himu.1
          have hsu : ud ≤ 1000 := by omega
          have hS8 := below_next hS7 (Nat.le_refl _) hbu
          have hra8 := hra7.below hbu
          clear hra7
          have hrb8 := hrb7.below hbu
          clear hrb7
          have hrp8 := hrp7.below hbu
          clear hrp7
          have hrr8 := hrr7.below hbu
          clear hrr7
          have hru := Gives.rd hou
          clear hou
          go_wp2_with fail
          refine hKa.out _ _ hS8 ?_
          clear hKa Ka
          have hin8 : inn (⟨uK, ulo, uhi, uf, ug, uo, uno⟩ : Sp) (⟨aK, alo, ahi, af, ag, ao, ano⟩ : Sp) = true := meet_in himu hca
          refine wpAnyH_one (i := 34) (by kernel_rfl) rfl (by rfl) (fun Ka hKa => ?_)
          go_simp
          with_reducible refine (in_at (⟨uK, ulo, uhi, uf, ug, uo, uno⟩ : Sp) (⟨aK, alo, ahi, af, ag, ao, ano⟩ : Sp) hcu hca Xu ud ue Xa ad ae x8 hlu hsu hla hsa hru hra8 true hin8).mono ?_
          rintro e x9 ⟨rfl, hg8⟩
          have hS9 := below_next hS8 (Nat.le_refl _) hg8
          clear hin8
          have hra9 := hra8.below hg8
          clear hra8
          have hrb9 := hrb8.below hg8
          clear hrb8
          have hrp9 := hrp8.below hg8
          clear hrp8
          have hrr9 := hrr8.below hg8
          clear hrr8
          have hru9 := hru.below hg8
          clear hru
          go_wp2_with fail
          refine hKa.out _ _ hS9 ?_
          clear hKa Ka
          refine wpAnyH_yes (i := 35) (d := 61) (v := ?_) rfl rfl (by kernel_rfl) (by kernel_rfl) (by kernel_rfl) (fun _ _ _ h => h) (by rfl) ?_ hS9 ?_
          rotate_left
          · intro w' hSw; go_simp <;> with_reducible rfl
          simp only [Act.put, List.setIfInBounds_toArray, List.set_cons_zero, List.set_cons_succ]
          refine wpAnyH_yes (i := 36) (d := 62) (v := ?_) rfl rfl (by kernel_rfl) (by kernel_rfl) (by kernel_rfl) (fun _ _ _ h => h) (by rfl) ?_ hS9 ?_
          rotate_left
          · intro w' hSw; go_simp <;> with_reducible rfl
          simp only [Act.put, List.setIfInBounds_toArray, List.set_cons_zero, List.set_cons_succ]
          refine wpAnyH_yes (i := 37) (d := 63) (v := ?_) rfl rfl (by kernel_rfl) (by kernel_rfl) (by kernel_rfl) (fun _ _ _ h => h) (by rfl) ?_ hS9 ?_
          rotate_left
          · intro w' hSw; obtain ⟨a0, a1, a2, a3, a4, a5, a6, _⟩ := blk7 (Blk.below hVa hSw hVa.lt); obtain ⟨b0, b1, b2, b3, b4, b5, b6, _⟩ := blk7 (Blk.below hVb hSw hVb.lt); go_simp <;> with_reducible rfl
          simp only [Act.put, List.setIfInBounds_toArray, List.set_cons_zero, List.set_cons_succ]
          refine wpAnyH_yes (i := 38) (d := 64) (v := ?_) rfl rfl (by kernel_rfl) (by kernel_rfl) (by kernel_rfl) (fun _ _ _ h => h) (by rfl) ?_ hS9 ?_
          rotate_left
          · intro w' hSw; obtain ⟨a0, a1, a2, a3, a4, a5, a6, _⟩ := blk7 (Blk.below hVa hSw hVa.lt); obtain ⟨b0, b1, b2, b3, b4, b5, b6, _⟩ := blk7 (Blk.below hVb hSw hVb.lt); go_simp <;> with_reducible rfl
          simp only [Act.put, List.setIfInBounds_toArray, List.set_cons_zero, List.set_cons_succ]
          refine wpAnyH_yes (i := 40) (d := 66) (v := ?_) rfl rfl (by kernel_rfl) (by kernel_rfl) (by kernel_rfl) (fun _ _ _ h => h) (by rfl) ?_ hS9 ?_
          rotate_left
          · intro w' hSw; obtain ⟨a0, a1, a2, a3, a4, a5, a6, _⟩ := blk7 (Blk.below hVa hSw hVa.lt); obtain ⟨b0, b1, b2, b3, b4, b5, b6, _⟩ := blk7 (Blk.below hVb hSw hVb.lt); go_simp <;> with_reducible rfl
          simp only [Act.put, List.setIfInBounds_toArray, List.set_cons_zero, List.set_cons_succ]
          refine wpAnyH_yes (i := 41) (d := 67) (v := ?_) rfl rfl (by kernel_rfl) (by kernel_rfl) (by kernel_rfl) (fun _ _ _ h => h) (by rfl) ?_ hS9 ?_
          rotate_left
          · intro w' hSw; obtain ⟨a0, a1, a2, a3, a4, a5, a6, _⟩ := blk7 (Blk.below hVa hSw hVa.lt); obtain ⟨b0, b1, b2, b3, b4, b5, b6, _⟩ := blk7 (Blk.below hVb hSw hVb.lt); go_simp <;> with_reducible rfl
          simp only [Act.put, List.setIfInBounds_toArray, List.set_cons_zero, List.set_cons_succ]
          refine wpAnyH_yes (i := 43) (d := 69) (v := ?_) rfl rfl (by kernel_rfl) (by kernel_rfl) (by kernel_rfl) (fun _ _ _ h => h) (by rfl) ?_ hS9 ?_
          rotate_left
          · intro w' hSw; obtain ⟨a0, a1, a2, a3, a4, a5, a6, _⟩ := blk7 (Blk.below hVa hSw hVa.lt); obtain ⟨b0, b1, b2, b3, b4, b5, b6, _⟩ := blk7 (Blk.below hVb hSw hVb.lt); go_simp <;> with_reducible rfl
          simp only [Act.put, List.setIfInBounds_toArray, List.set_cons_zero, List.set_cons_succ]
          have hin9 : inn (⟨aK, alo, ahi, af, ag, ao, ano⟩ : Sp) (⟨bK, blo, bhi, bf, bg, bo, bno⟩ : Sp) = true := HQ1.out
          refine wpAnyH_one (i := 39) (by kernel_rfl) rfl (by rfl) (fun Ka hKa => ?_)
          go_simp
          with_reducible refine (in_at (⟨aK, alo, ahi, af, ag, ao, ano⟩ : Sp) (⟨bK, blo, bhi, bf, bg, bo, bno⟩ : Sp) hca hcb Xa ad ae Xb bd be x9 hla hsa hlb hsb hra9 hrb9 true hin9).mono ?_
          rintro e x10 ⟨rfl, hg9⟩
          have hS10 := below_next hS9 (Nat.le_refl _) hg9
          clear hin9
          have hra10 := hra9.below hg9
          clear hra9
          have hrb10 := hrb9.below hg9
          clear hrb9
          have hrp10 := hrp9.below hg9
          clear hrp9
          have hrr10 := hrr9.below hg9
          clear hrr9
          have hru10 := hru9.below hg9
          clear hru9
          go_wp2_with fail
          refine hKa.out _ _ hS10 ?_
          clear hKa Ka
          refine wpAnyH_one (i := 42) (by kernel_rfl) rfl (by rfl) (fun Ka hKa => ?_)
          go_simp
          with_reducible refine (meet_at (⟨aK, alo, ahi, af, ag, ao, ano⟩ : Sp) (⟨bK, blo, bhi, bf, bg, bo, bno⟩ : Sp) hca hcb Xa ad ae Xb bd be x10 hla hsa hlb hsb hra10 hrb10).mono ?_
          rintro e x11 ⟨⟨vK, vlo, vhi, vf, vg, vo, vno⟩, himv, hrlv, Xv, vd, ve, rfl, hlv, _, hov, hbv⟩
          dsimp only at hrlv hlv hov
          have hcv : Canon (⟨vK, vlo, vhi, vf, vg, vo, vno⟩ : Sp) := himv.1
          have hsv : vd ≤ 1000 := by omega
          have hS11 := below_next hS10 (Nat.le_refl _) hbv
          have hra11 := hra10.below hbv
          clear hra10
          have hrb11 := hrb10.below hbv
          clear hrb10
          have hrp11 := hrp10.below hbv
          clear hrp10
          have hrr11 := hrr10.below hbv
          clear hrr10
          have hru11 := hru10.below hbv
          clear hru10
          have hrv := Gives.rd hov
          clear hov
          go_wp2_with fail
          refine hKa.out _ _ hS11 ?_
          clear hKa Ka
          have hsm11 : decide ((⟨vK, vlo, vhi, vf, vg, vo, vno⟩ : Sp) = (⟨aK, alo, ahi, af, ag, ao, ano⟩ : Sp)) = true := (in_meet hca hcb himv).trans HQ1.out
          have hsl11 : vd ≤ 100000 := by omega
          have hsr11 : ad ≤ 100000 := by omega
          refine wpAnyH_one (i := 44) (by kernel_rfl) rfl (by rfl) (fun Ka hKa => ?_)
          go_simp
          with_reducible refine (refSame_is vK vlo vhi vf vg vo Xv vd ve aK alo ahi af ag ao Xa ad ae x11 vno ano hlv hsl11 hla hsr11 hrv hra11 true hsm11).mono ?_
          rintro e x12 ⟨rfl, hg11⟩
          have hS12 := below_next hS11 (Nat.le_refl _) hg11.below
          clear hsm11
          have hra12 := hra11.below hg11.below
          clear hra11
          have hrb12 := hrb11.below hg11.below
          clear hrb11
          have hrp12 := hrp11.below hg11.below
          clear hrp11
          have hrr12 := hrr11.below hg11.below
          clear hrr11
          have hru12 := hru11.below hg11.below
          clear hru11
          have hrv12 := hrv.below hg11.below
          clear hrv
          go_wp2_with fail
          refine hKa.out _ _ hS12 ?_
          clear hKa Ka
          refine wpAnyH_yes (i := 45) (d := 71) (v := ?_) rfl rfl (by kernel_rfl) (by kernel_rfl) (by kernel_rfl) (fun _ _ _ h => h) (by rfl) ?_ hS12 ?_
          rotate_left
          · intro w' hSw; go_simp <;> with_reducible rfl
          simp only [Act.put, List.setIfInBounds_toArray, List.set_cons_zero, List.set_cons_succ]
          refine wpAnyH_yes (i := 46) (d := 72) (v := ?_) rfl rfl (by kernel_rfl) (by kernel_rfl) (by kernel_rfl) (fun _ _ _ h => h) (by rfl) ?_ hS12 ?_
          rotate_left
          · intro w' hSw; go_simp <;> with_reducible rfl
          simp only [Act.put, List.setIfInBounds_toArray, List.set_cons_zero, List.set_cons_succ]
          refine wpAnyH_yes (i := 47) (d := 4) (v := ?_) rfl rfl (by kernel_rfl) (by kernel_rfl) (by kernel_rfl) (fun _ _ _ h => h) (by rfl) ?_ hS12 ?_
          rotate_left
          · intro w' hSw; go_simp <;> with_reducible rfl
          simp only [Act.put, List.setIfInBounds_toArray, List.set_cons_zero, List.set_cons_succ]
          refine wpAnyH_done (by kernel_rfl) ?_ _
          go_wp2_with fail
          go_ret
          exact ⟨rfl, below_next HBD.out (by have := HBD.out.size; omega) hS12⟩
        | true =>
          have HQ1 := Lib.hid hq1
          have HQ2 := Lib.hid hq2
          have HSM : Hid (decide ((⟨aK, alo, ahi, af, ag, ao, ano⟩ : Sp) = (⟨bK, blo, bhi, bf, bg, bo, bno⟩ : Sp)) = true) := by show _ = _; rw [hsm, hq1, hq2]; rfl
          clear hsm hq1 hq2
          refine wpAnyH_yes (i := 0) (d := 26) (v := ?_) rfl rfl (by kernel_rfl) (by kernel_rfl) (by kernel_rfl) (fun _ _ _ h => h) (by rfl) ?_ hS0 ?_
          rotate_left
          · intro w' hSw; go_simp <;> with_reducible rfl
          simp only [Act.put, List.setIfInBounds_toArray, List.set_cons_zero, List.set_cons_succ]
          refine wpAnyH_yes (i := 1) (d := 27) (v := ?_) rfl rfl (by kernel_rfl) (by kernel_rfl) (by kernel_rfl) (fun _ _ _ h => h) (by rfl) ?_ hS0 ?_
          rotate_left
          · intro w' hSw; go_simp <;> with_reducible rfl
          simp only [Act.put, List.setIfInBounds_toArray, List.set_cons_zero, List.set_cons_succ]
          refine wpAnyH_yes (i := 2) (d := 28) (v := ?_) rfl rfl (by kernel_rfl) (by kernel_rfl) (by kernel_rfl) (fun _ _ _ h => h) (by rfl) ?_ hS0 ?_
          rotate_left
          · intro w' hSw; obtain ⟨a0, a1, a2, a3, a4, a5, a6, _⟩ := blk7 (Blk.below hVa hSw hVa.lt); obtain ⟨b0, b1, b2, b3, b4, b5, b6, _⟩ := blk7 (Blk.below hVb hSw hVb.lt); go_simp <;> with_reducible rfl
          simp only [Act.put, List.setIfInBounds_toArray, List.set_cons_zero, List.set_cons_succ]
          refine wpAnyH_yes (i := 3) (d := 29) (v := ?_) rfl rfl (by kernel_rfl) (by kernel_rfl) (by kernel_rfl) (fun _ _ _ h => h) (by rfl) ?_ hS0 ?_
          rotate_left
          · intro w' hSw; obtain ⟨a0, a1, a2, a3, a4, a5, a6, _⟩ := blk7 (Blk.below hVa hSw hVa.lt); obtain ⟨b0, b1, b2, b3, b4, b5, b6, _⟩ := blk7 (Blk.below hVb hSw hVb.lt); go_simp <;> with_reducible rfl
          simp only [Act.put, List.setIfInBounds_toArray, List.set_cons_zero, List.set_cons_succ]
          refine wpAnyH_yes (i := 10) (d := 36) (v := ?_) rfl rfl (by kernel_rfl) (by kernel_rfl) (by kernel_rfl) (fun _ _ _ h => h) (by rfl) ?_ hS0 ?_
          rotate_left
          · intro w' hSw; obtain ⟨a0, a1, a2, a3, a4, a5, a6, _⟩ := blk7 (Blk.below hVa hSw hVa.lt); obtain ⟨b0, b1, b2, b3, b4, b5, b6, _⟩ := blk7 (Blk.below hVb hSw hVb.lt); go_simp <;> with_reducible rfl
          simp only [Act.put, List.setIfInBounds_toArray, List.set_cons_zero, List.set_cons_succ]
          refine wpAnyH_yes (i := 11) (d := 37) (v := ?_) rfl rfl (by kernel_rfl) (by kernel_rfl) (by kernel_rfl) (fun _ _ _ h => h) (by rfl) ?_ hS0 ?_
          rotate_left
          · intro w' hSw; obtain ⟨a0, a1, a2, a3, a4, a5, a6, _⟩ := blk7 (Blk.below hVa hSw hVa.lt); obtain ⟨b0, b1, b2, b3, b4, b5, b6, _⟩ := blk7 (Blk.below hVb hSw hVb.lt); go_simp <;> with_reducible rfl
          simp only [Act.put, List.setIfInBounds_toArray, List.set_cons_zero, List.set_cons_succ]
          have hin0 : inn (⟨aK, alo, ahi, af, ag, ao, ano⟩ : Sp) (⟨bK, blo, bhi, bf, bg, bo, bno⟩ : Sp) = true := HQ1.out
          refine wpAnyH_one (i := 4) (by kernel_rfl) rfl (by rfl) (fun Ka hKa => ?_)
          go_simp
          with_reducible refine (in_at (⟨aK, alo, ahi, af, ag, ao, ano⟩ : Sp) (⟨bK, blo, bhi, bf, bg, bo, bno⟩ : Sp) hca hcb Xa ad ae Xb bd be x0 hla hsa hlb hsb hra0 hrb0 true hin0).mono ?_
          rintro e x1 ⟨rfl, hg0⟩
          have hS1 := below_next hS0 (Nat.le_refl _) hg0
          clear hin0
          have hra1 := hra0.below hg0
          clear hra0
          have hrb1 := hrb0.below hg0
          clear hrb0
          go_wp2_with fail
          refine hKa.out _ _ hS1 ?_
          clear hKa Ka
          refine wpAnyH_yes (i := 5) (d := 31) (v := ?_) rfl rfl (by kernel_rfl) (by kernel_rfl) (by kernel_rfl) (fun _ _ _ h => h) (by rfl) ?_ hS1 ?_
          rotate_left
          · intro w' hSw; go_simp <;> with_reducible rfl
          simp only [Act.put, List.setIfInBounds_toArray, List.set_cons_zero, List.set_cons_succ]
          refine wpAnyH_yes (i := 6) (d := 32) (v := ?_) rfl rfl (by kernel_rfl) (by kernel_rfl) (by kernel_rfl) (fun _ _ _ h => h) (by rfl) ?_ hS1 ?_
          rotate_left
          · intro w' hSw; obtain ⟨a0, a1, a2, a3, a4, a5, a6, _⟩ := blk7 (Blk.below hVa hSw hVa.lt); obtain ⟨b0, b1, b2, b3, b4, b5, b6, _⟩ := blk7 (Blk.below hVb hSw hVb.lt); go_simp <;> with_reducible rfl
          simp only [Act.put, List.setIfInBounds_toArray, List.set_cons_zero, List.set_cons_succ]
          refine wpAnyH_yes (i := 7) (d := 33) (v := ?_) rfl rfl (by kernel_rfl) (by kernel_rfl) (by kernel_rfl) (fun _ _ _ h => h) (by rfl) ?_ hS1 ?_
          rotate_left
          · intro w' hSw; obtain ⟨a0, a1, a2, a3, a4, a5, a6, _⟩ := blk7 (Blk.below hVa hSw hVa.lt); obtain ⟨b0, b1, b2, b3, b4, b5, b6, _⟩ := blk7 (Blk.below hVb hSw hVb.lt); go_simp <;> with_reducible rfl
          simp only [Act.put, List.setIfInBounds_toArray, List.set_cons_zero, List.set_cons_succ]
          have hin1 : inn (⟨bK, blo, bhi, bf, bg, bo, bno⟩ : Sp) (⟨aK, alo, ahi, af, ag, ao, ano⟩ : Sp) = true := HQ2.out
          refine wpAnyH_one (i := 8) (by kernel_rfl) rfl (by rfl) (fun Ka hKa => ?_)
          go_simp
          with_reducible refine (in_at (⟨bK, blo, bhi, bf, bg, bo, bno⟩ : Sp) (⟨aK, alo, ahi, af, ag, ao, ano⟩ : Sp) hcb hca Xb bd be Xa ad ae x1 hlb hsb hla hsa hrb1 hra1 true hin1).mono ?_
          rintro e x2 ⟨rfl, hg1⟩
          have hS2 := below_next hS1 (Nat.le_refl _) hg1
          clear hin1
          have hra2 := hra1.below hg1
          clear hra1
          have hrb2 := hrb1.below hg1
          clear hrb1
          go_wp2_with fail
          refine hKa.out _ _ hS2 ?_
          clear hKa Ka
          refine wpAnyH_yes (i := 9) (d := 35) (v := ?_) rfl rfl (by kernel_rfl) (by kernel_rfl) (by kernel_rfl) (fun _ _ _ h => h) (by rfl) ?_ hS2 ?_
          rotate_left
          · intro w' hSw; go_simp <;> with_reducible rfl
          simp only [Act.put, List.setIfInBounds_toArray, List.set_cons_zero, List.set_cons_succ]
          have hsm2 : decide ((⟨aK, alo, ahi, af, ag, ao, ano⟩ : Sp) = (⟨bK, blo, bhi, bf, bg, bo, bno⟩ : Sp)) = true := HSM.out
          have hsl2 : ad ≤ 100000 := by omega
          have hsr2 : bd ≤ 100000 := by omega
          refine wpAnyH_one (i := 12) (by kernel_rfl) rfl (by rfl) (fun Ka hKa => ?_)
          go_simp
          with_reducible refine (refSame_is aK alo ahi af ag ao Xa ad ae bK blo bhi bf bg bo Xb bd be x2 ano bno hla hsl2 hlb hsr2 hra2 hrb2 true hsm2).mono ?_
          rintro e x3 ⟨rfl, hg2⟩
          have hS3 := below_next hS2 (Nat.le_refl _) hg2.below
          clear hsm2
          have hra3 := hra2.below hg2.below
          clear hra2
          have hrb3 := hrb2.below hg2.below
          clear hrb2
          go_wp2_with fail
          refine hKa.out _ _ hS3 ?_
          clear hKa Ka
          refine wpAnyH_yes (i := 13) (d := 39) (v := ?_) rfl rfl (by kernel_rfl) (by kernel_rfl) (by kernel_rfl) (fun _ _ _ h => h) (by rfl) ?_ hS3 ?_
          rotate_left
          · intro w' hSw; go_simp <;> with_reducible rfl
          simp only [Act.put, List.setIfInBounds_toArray, List.set_cons_zero, List.set_cons_succ]
          refine wpAnyH_yes (i := 14) (d := 40) (v := ?_) rfl rfl (by kernel_rfl) (by kernel_rfl) (by kernel_rfl) (fun _ _ _ h => h) (by rfl) ?_ hS3 ?_
          rotate_left
          · intro w' hSw; go_simp <;> with_reducible rfl
          simp only [Act.put, List.setIfInBounds_toArray, List.set_cons_zero, List.set_cons_succ]
          refine wpAnyH_yes (i := 15) (d := 41) (v := ?_) rfl rfl (by kernel_rfl) (by kernel_rfl) (by kernel_rfl) (fun _ _ _ h => h) (by rfl) ?_ hS3 ?_
          rotate_left
          · intro w' hSw; go_simp <;> with_reducible rfl
          simp only [Act.put, List.setIfInBounds_toArray, List.set_cons_zero, List.set_cons_succ]
          refine wpAnyH_yes (i := 16) (d := 42) (v := ?_) rfl rfl (by kernel_rfl) (by kernel_rfl) (by kernel_rfl) (fun _ _ _ h => h) (by rfl) ?_ hS3 ?_
          rotate_left
          · intro w' hSw; obtain ⟨a0, a1, a2, a3, a4, a5, a6, _⟩ := blk7 (Blk.below hVa hSw hVa.lt); obtain ⟨b0, b1, b2, b3, b4, b5, b6, _⟩ := blk7 (Blk.below hVb hSw hVb.lt); go_simp <;> with_reducible rfl
          simp only [Act.put, List.setIfInBounds_toArray, List.set_cons_zero, List.set_cons_succ]
          refine wpAnyH_yes (i := 17) (d := 43) (v := ?_) rfl rfl (by kernel_rfl) (by kernel_rfl) (by kernel_rfl) (fun _ _ _ h => h) (by rfl) ?_ hS3 ?_
          rotate_left
          · intro w' hSw; obtain ⟨a0, a1, a2, a3, a4, a5, a6, _⟩ := blk7 (Blk.below hVa hSw hVa.lt); obtain ⟨b0, b1, b2, b3, b4, b5, b6, _⟩ := blk7 (Blk.below hVb hSw hVb.lt); go_simp <;> with_reducible rfl
          simp only [Act.put, List.setIfInBounds_toArray, List.set_cons_zero, List.set_cons_succ]
          have hin3 : inn (⟨aK, alo, ahi, af, ag, ao, ano⟩ : Sp) (⟨aK, alo, ahi, af, ag, ao, ano⟩ : Sp) = true := HAA.out
          refine wpAnyH_one (i := 18) (by kernel_rfl) rfl (by rfl) (fun Ka hKa => ?_)
          go_simp
          with_reducible refine (in_at (⟨aK, alo, ahi, af, ag, ao, ano⟩ : Sp) (⟨aK, alo, ahi, af, ag, ao, ano⟩ : Sp) hca hca Xa ad ae Xa ad ae x3 hla hsa hla hsa hra3 hra3 true hin3).mono ?_
          rintro e x4 ⟨rfl, hg3⟩
          have hS4 := below_next hS3 (Nat.le_refl _) hg3
          clear hin3
          have hra4 := hra3.below hg3
          clear hra3
          have hrb4 := hrb3.below hg3
          clear hrb3
          go_wp2_with fail
          refine hKa.out _ _ hS4 ?_
          clear hKa Ka
          refine wpAnyH_yes (i := 19) (d := 45) (v := ?_) rfl rfl (by kernel_rfl) (by kernel_rfl) (by kernel_rfl) (fun _ _ _ h => h) (by rfl) ?_ hS4 ?_
          rotate_left
          · intro w' hSw; go_simp <;> with_reducible rfl
          simp only [Act.put, List.setIfInBounds_toArray, List.set_cons_zero, List.set_cons_succ]
          refine wpAnyH_yes (i := 20) (d := 46) (v := ?_) rfl rfl (by kernel_rfl) (by kernel_rfl) (by kernel_rfl) (fun _ _ _ h => h) (by rfl) ?_ hS4 ?_
          rotate_left
          · intro w' hSw; go_simp <;> with_reducible rfl
          simp only [Act.put, List.setIfInBounds_toArray, List.set_cons_zero, List.set_cons_succ]
          refine wpAnyH_yes (i := 21) (d := 47) (v := ?_) rfl rfl (by kernel_rfl) (by kernel_rfl) (by kernel_rfl) (fun _ _ _ h => h) (by rfl) ?_ hS4 ?_
          rotate_left
          · intro w' hSw; obtain ⟨a0, a1, a2, a3, a4, a5, a6, _⟩ := blk7 (Blk.below hVa hSw hVa.lt); obtain ⟨b0, b1, b2, b3, b4, b5, b6, _⟩ := blk7 (Blk.below hVb hSw hVb.lt); go_simp <;> with_reducible rfl
          simp only [Act.put, List.setIfInBounds_toArray, List.set_cons_zero, List.set_cons_succ]
          refine wpAnyH_yes (i := 22) (d := 48) (v := ?_) rfl rfl (by kernel_rfl) (by kernel_rfl) (by kernel_rfl) (fun _ _ _ h => h) (by rfl) ?_ hS4 ?_
          rotate_left
          · intro w' hSw; obtain ⟨a0, a1, a2, a3, a4, a5, a6, _⟩ := blk7 (Blk.below hVa hSw hVa.lt); obtain ⟨b0, b1, b2, b3, b4, b5, b6, _⟩ := blk7 (Blk.below hVb hSw hVb.lt); go_simp <;> with_reducible rfl
          simp only [Act.put, List.setIfInBounds_toArray, List.set_cons_zero, List.set_cons_succ]
          refine wpAnyH_yes (i := 24) (d := 50) (v := ?_) rfl rfl (by kernel_rfl) (by kernel_rfl) (by kernel_rfl) (fun _ _ _ h => h) (by rfl) ?_ hS4 ?_
          rotate_left
          · intro w' hSw; obtain ⟨a0, a1, a2, a3, a4, a5, a6, _⟩ := blk7 (Blk.below hVa hSw hVa.lt); obtain ⟨b0, b1, b2, b3, b4, b5, b6, _⟩ := blk7 (Blk.below hVb hSw hVb.lt); go_simp <;> with_reducible rfl
          simp only [Act.put, List.setIfInBounds_toArray, List.set_cons_zero, List.set_cons_succ]
          refine wpAnyH_yes (i := 25) (d := 51) (v := ?_) rfl rfl (by kernel_rfl) (by kernel_rfl) (by kernel_rfl) (fun _ _ _ h => h) (by rfl) ?_ hS4 ?_
          rotate_left
          · intro w' hSw; obtain ⟨a0, a1, a2, a3, a4, a5, a6, _⟩ := blk7 (Blk.below hVa hSw hVa.lt); obtain ⟨b0, b1, b2, b3, b4, b5, b6, _⟩ := blk7 (Blk.below hVb hSw hVb.lt); go_simp <;> with_reducible rfl
          simp only [Act.put, List.setIfInBounds_toArray, List.set_cons_zero, List.set_cons_succ]
          refine wpAnyH_one (i := 23) (by kernel_rfl) rfl (by rfl) (fun Ka hKa => ?_)
          go_simp
          with_reducible refine (meet_at (⟨aK, alo, ahi, af, ag, ao, ano⟩ : Sp) (⟨bK, blo, bhi, bf, bg, bo, bno⟩ : Sp) hca hcb Xa ad ae Xb bd be x4 hla hsa hlb hsb hra4 hrb4).mono ?_
          rintro e x5 ⟨⟨pK, plo, phi, pf, pg, po, pno⟩, himp, hrlp, Xp, pd, pe, rfl, hlp, _, hop, hbp⟩
          dsimp only at hrlp hlp hop
          have hcp : Canon (⟨pK, plo, phi, pf, pg, po, pno⟩ : Sp) := himp.1
          have hsp : pd ≤ 1000 := by omega
          have hS5 := below_next hS4 (Nat.le_refl _) hbp
          have hra5 := hra4.below hbp
          clear hra4
          have hrb5 := hrb4.below hbp
          clear hrb4
          have hrp := Gives.rd hop
          clear hop
          go_wp2_with fail
          refine hKa.out _ _ hS5 ?_
          clear hKa Ka
          refine wpAnyH_one (i := 26) (by kernel_rfl) rfl (by rfl) (fun Ka hKa => ?_)
          go_simp
          with_reducible refine (meet_at (⟨bK, blo, bhi, bf, bg, bo, bno⟩ : Sp) (⟨aK, alo, ahi, af, ag, ao, ano⟩ : Sp) hcb hca Xb bd be Xa ad ae x5 hlb hsb hla hsa hrb5 hra5).mono ?_
          rintro e x6 ⟨⟨rK, rlo, rhi, rf, rg, ro, rno⟩, himr, hrlr, Xr, rd, re, rfl, hlr, _, hor, hbr⟩
          dsimp only at hrlr hlr hor
          have hcr : Canon (⟨rK, rlo, rhi, rf, rg, ro, rno⟩ : Sp) := himr.1
          have hsr : rd ≤ 1000 := by omega
          have hS6 := below_next hS5 (Nat.le_refl _) hbr
          have hra6 := hra5.below hbr
          clear hra5
          have hrb6 := hrb5.below hbr
          clear hrb5
          have hrp6 := hrp.below hbr
          clear hrp
          have hrr := Gives.rd hor
          clear hor
          go_wp2_with fail
          refine hKa.out _ _ hS6 ?_
          clear hKa Ka
          have hsm6 : decide ((⟨pK, plo, phi, pf, pg, po, pno⟩ : Sp) = (⟨rK, rlo, rhi, rf, rg, ro, rno⟩ : Sp)) = true := decide_eq_true (meet_turn himp himr)
          have hsl6 : pd ≤ 100000 := by omega
          have hsr6 : rd ≤ 100000 := by omega
          refine wpAnyH_one (i := 27) (by kernel_rfl) rfl (by rfl) (fun Ka hKa => ?_)
          go_simp
          with_reducible refine (refSame_is pK plo phi pf pg po Xp pd pe rK rlo rhi rf rg ro Xr rd re x6 pno rno hlp hsl6 hlr hsr6 hrp6 hrr true hsm6).mono ?_
          rintro e x7 ⟨rfl, hg6⟩
          have hS7 := below_next hS6 (Nat.le_refl _) hg6.below
          clear hsm6
          have hra7 := hra6.below hg6.below
          clear hra6
          have hrb7 := hrb6.below hg6.below
          clear hrb6
          have hrp7 := hrp6.below hg6.below
          clear hrp6
          have hrr7 := hrr.below hg6.below
          clear hrr
          go_wp2_with fail
          refine hKa.out _ _ hS7 ?_
          clear hKa Ka
          refine wpAnyH_yes (i := 28) (d := 54) (v := ?_) rfl rfl (by kernel_rfl) (by kernel_rfl) (by kernel_rfl) (fun _ _ _ h => h) (by rfl) ?_ hS7 ?_
          rotate_left
          · intro w' hSw; go_simp <;> with_reducible rfl
          simp only [Act.put, List.setIfInBounds_toArray, List.set_cons_zero, List.set_cons_succ]
          refine wpAnyH_yes (i := 29) (d := 55) (v := ?_) rfl rfl (by kernel_rfl) (by kernel_rfl) (by kernel_rfl) (fun _ _ _ h => h) (by rfl) ?_ hS7 ?_
          rotate_left
          · intro w' hSw; go_simp <;> with_reducible rfl
          simp only [Act.put, List.setIfInBounds_toArray, List.set_cons_zero, List.set_cons_succ]
          refine wpAnyH_yes (i := 30) (d := 56) (v := ?_) rfl rfl (by kernel_rfl) (by kernel_rfl) (by kernel_rfl) (fun _ _ _ h => h) (by rfl) ?_ hS7 ?_
          rotate_left
          · intro w' hSw; obtain ⟨a0, a1, a2, a3, a4, a5, a6, _⟩ := blk7 (Blk.below hVa hSw hVa.lt); obtain ⟨b0, b1, b2, b3, b4, b5, b6, _⟩ := blk7 (Blk.below hVb hSw hVb.lt); go_simp <;> with_reducible rfl
          simp only [Act.put, List.setIfInBounds_toArray, List.set_cons_zero, List.set_cons_succ]
          refine wpAnyH_yes (i := 31) (d := 57) (v := ?_) rfl rfl (by kernel_rfl) (by kernel_rfl) (by kernel_rfl) (fun _ _ _ h => h) (by rfl) ?_ hS7 ?_
          rotate_left
          · intro w' hSw; obtain ⟨a0, a1, a2, a3, a4, a5, a6, _⟩ := blk7 (Blk.below hVa hSw hVa.lt); obtain ⟨b0, b1, b2, b3, b4, b5, b6, _⟩ := blk7 (Blk.below hVb hSw hVb.lt); go_simp <;> with_reducible rfl
          simp only [Act.put, List.setIfInBounds_toArray, List.set_cons_zero, List.set_cons_succ]
          refine wpAnyH_yes (i := 33) (d := 59) (v := ?_) rfl rfl (by kernel_rfl) (by kernel_rfl) (by kernel_rfl) (fun _ _ _ h => h) (by rfl) ?_ hS7 ?_
          rotate_left
          · intro w' hSw; obtain ⟨a0, a1, a2, a3, a4, a5, a6, _⟩ := blk7 (Blk.below hVa hSw hVa.lt); obtain ⟨b0, b1, b2, b3, b4, b5, b6, _⟩ := blk7 (Blk.below hVb hSw hVb.lt); go_simp <;> with_reducible rfl
          simp only [Act.put, List.setIfInBounds_toArray, List.set_cons_zero, List.set_cons_succ]
          refine wpAnyH_one (i := 32) (by kernel_rfl) rfl (by rfl) (fun Ka hKa => ?_)
          go_simp
          with_reducible refine (meet_at (⟨aK, alo, ahi, af, ag, ao, ano⟩ : Sp) (⟨bK, blo, bhi, bf, bg, bo, bno⟩ : Sp) hca hcb Xa ad ae Xb bd be x7 hla hsa hlb hsb hra7 hrb7).mono ?_
          rintro e x8 ⟨⟨uK, ulo, uhi, uf, ug, uo, uno⟩, himu, hrlu, Xu, ud, ue, rfl, hlu, _, hou, hbu⟩
          dsimp only at hrlu hlu hou
          have hcu : Canon (⟨uK, ulo, uhi, uf, ug, uo, uno⟩ : Sp) := himu.1
          have hsu : ud ≤ 1000 := by omega
          have hS8 := below_next hS7 (Nat.le_refl _) hbu
          have hra8 := hra7.below hbu
          clear hra7
          have hrb8 := hrb7.below hbu
          clear hrb7
          have hrp8 := hrp7.below hbu
          clear hrp7
          have hrr8 := hrr7.below hbu
          clear hrr7
          have hru := Gives.rd hou
          clear hou
          go_wp2_with fail
          refine hKa.out _ _ hS8 ?_
          clear hKa Ka
          have hin8 : inn (⟨uK, ulo, uhi, uf, ug, uo, uno⟩ : Sp) (⟨aK, alo, ahi, af, ag, ao, ano⟩ : Sp) = true := meet_in himu hca
          refine wpAnyH_one (i := 34) (by kernel_rfl) rfl (by rfl) (fun Ka hKa => ?_)
          go_simp
          with_reducible refine (in_at (⟨uK, ulo, uhi, uf, ug, uo, uno⟩ : Sp) (⟨aK, alo, ahi, af, ag, ao, ano⟩ : Sp) hcu hca Xu ud ue Xa ad ae x8 hlu hsu hla hsa hru hra8 true hin8).mono ?_
          rintro e x9 ⟨rfl, hg8⟩
          have hS9 := below_next hS8 (Nat.le_refl _) hg8
          clear hin8
          have hra9 := hra8.below hg8
          clear hra8
          have hrb9 := hrb8.below hg8
          clear hrb8
          have hrp9 := hrp8.below hg8
          clear hrp8
          have hrr9 := hrr8.below hg8
          clear hrr8
          have hru9 := hru.below hg8
          clear hru
          go_wp2_with fail
          refine hKa.out _ _ hS9 ?_
          clear hKa Ka
          refine wpAnyH_yes (i := 35) (d := 61) (v := ?_) rfl rfl (by kernel_rfl) (by kernel_rfl) (by kernel_rfl) (fun _ _ _ h => h) (by rfl) ?_ hS9 ?_
          rotate_left
          · intro w' hSw; go_simp <;> with_reducible rfl
          simp only [Act.put, List.setIfInBounds_toArray, List.set_cons_zero, List.set_cons_succ]
          refine wpAnyH_yes (i := 36) (d := 62) (v := ?_) rfl rfl (by kernel_rfl) (by kernel_rfl) (by kernel_rfl) (fun _ _ _ h => h) (by rfl) ?_ hS9 ?_
          rotate_left
          · intro w' hSw; go_simp <;> with_reducible rfl
          simp only [Act.put, List.setIfInBounds_toArray, List.set_cons_zero, List.set_cons_succ]
          refine wpAnyH_yes (i := 37) (d := 63) (v := ?_) rfl rfl (by kernel_rfl) (by kernel_rfl) (by kernel_rfl) (fun _ _ _ h => h) (by rfl) ?_ hS9 ?_
          rotate_left
          · intro w' hSw; obtain ⟨a0, a1, a2, a3, a4, a5, a6, _⟩ := blk7 (Blk.below hVa hSw hVa.lt); obtain ⟨b0, b1, b2, b3, b4, b5, b6, _⟩ := blk7 (Blk.below hVb hSw hVb.lt); go_simp <;> with_reducible rfl
          simp only [Act.put, List.setIfInBounds_toArray, List.set_cons_zero, List.set_cons_succ]
          refine wpAnyH_yes (i := 38) (d := 64) (v := ?_) rfl rfl (by kernel_rfl) (by kernel_rfl) (by kernel_rfl) (fun _ _ _ h => h) (by rfl) ?_ hS9 ?_
          rotate_left
          · intro w' hSw; obtain ⟨a0, a1, a2, a3, a4, a5, a6, _⟩ := blk7 (Blk.below hVa hSw hVa.lt); obtain ⟨b0, b1, b2, b3, b4, b5, b6, _⟩ := blk7 (Blk.below hVb hSw hVb.lt); go_simp <;> with_reducible rfl
          simp only [Act.put, List.setIfInBounds_toArray, List.set_cons_zero, List.set_cons_succ]
          refine wpAnyH_yes (i := 40) (d := 66) (v := ?_) rfl rfl (by kernel_rfl) (by kernel_rfl) (by kernel_rfl) (fun _ _ _ h => h) (by rfl) ?_ hS9 ?_
          rotate_left
          · intro w' hSw; obtain ⟨a0, a1, a2, a3, a4, a5, a6, _⟩ := blk7 (Blk.below hVa hSw hVa.lt); obtain ⟨b0, b1, b2, b3, b4, b5, b6, _⟩ := blk7 (Blk.below hVb hSw hVb.lt); go_simp <;> with_reducible rfl
          simp only [Act.put, List.setIfInBounds_toArray, List.set_cons_zero, List.set_cons_succ]
          refine wpAnyH_yes (i := 41) (d := 67) (v := ?_) rfl rfl (by kernel_rfl) (by kernel_rfl) (by kernel_rfl) (fun _ _ _ h => h) (by rfl) ?_ hS9 ?_
          rotate_left
          · intro w' hSw; obtain ⟨a0, a1, a2, a3, a4, a5, a6, _⟩ := blk7 (Blk.below hVa hSw hVa.lt); obtain ⟨b0, b1, b2, b3, b4, b5, b6, _⟩ := blk7 (Blk.below hVb hSw hVb.lt); go_simp <;> with_reducible rfl
          simp only [Act.put, List.setIfInBounds_toArray, List.set_cons_zero, List.set_cons_succ]
          refine wpAnyH_yes (i := 43) (d := 69) (v := ?_) rfl rfl (by kernel_rfl) (by kernel_rfl) (by kernel_rfl) (fun _ _ _ h => h) (by rfl) ?_ hS9 ?_
          rotate_left
          · intro w' hSw; obtain ⟨a0, a1, a2, a3, a4, a5, a6, _⟩ := blk7 (Blk.below hVa hSw hVa.lt); obtain ⟨b0, b1, b2, b3, b4, b5, b6, _⟩ := blk7 (Blk.below hVb hSw hVb.lt); go_simp <;> with_reducible rfl
          simp only [Act.put, List.setIfInBounds_toArray, List.set_cons_zero, List.set_cons_succ]
          have hin9 : inn (⟨aK, alo, ahi, af, ag, ao, ano⟩ : Sp) (⟨bK, blo, bhi, bf, bg, bo, bno⟩ : Sp) = true := HQ1.out
          refine wpAnyH_one (i := 39) (by kernel_rfl) rfl (by rfl) (fun Ka hKa => ?_)
          go_simp
          with_reducible refine (in_at (⟨aK, alo, ahi, af, ag, ao, ano⟩ : Sp) (⟨bK, blo, bhi, bf, bg, bo, bno⟩ : Sp) hca hcb Xa ad ae Xb bd be x9 hla hsa hlb hsb hra9 hrb9 true hin9).mono ?_
          rintro e x10 ⟨rfl, hg9⟩
          have hS10 := below_next hS9 (Nat.le_refl _) hg9
          clear hin9
          have hra10 := hra9.below hg9
          clear hra9
          have hrb10 := hrb9.below hg9
          clear hrb9
          have hrp10 := hrp9.below hg9
          clear hrp9
          have hrr10 := hrr9.below hg9
          clear hrr9
          have hru10 := hru9.below hg9
          clear hru9
          go_wp2_with fail
          refine hKa.out _ _ hS10 ?_
          clear hKa Ka
          refine wpAnyH_one (i := 42) (by kernel_rfl) rfl (by rfl) (fun Ka hKa => ?_)
          go_simp
          with_reducible refine (meet_at (⟨aK, alo, ahi, af, ag, ao, ano⟩ : Sp) (⟨bK, blo, bhi, bf, bg, bo, bno⟩ : Sp) hca hcb Xa ad ae Xb bd be x10 hla hsa hlb hsb hra10 hrb10).mono ?_
          rintro e x11 ⟨⟨vK, vlo, vhi, vf, vg, vo, vno⟩, himv, hrlv, Xv, vd, ve, rfl, hlv, _, hov, hbv⟩
          dsimp only at hrlv hlv hov
          have hcv : Canon (⟨vK, vlo, vhi, vf, vg, vo, vno⟩ : Sp) := himv.1
          have hsv : vd ≤ 1000 := by omega
          have hS11 := below_next hS10 (Nat.le_refl _) hbv
          have hra11 := hra10.below hbv
          clear hra10
          have hrb11 := hrb10.below hbv
          clear hrb10
          have hrp11 := hrp10.below hbv
          clear hrp10
          have hrr11 := hrr10.below hbv
          clear hrr10
          have hru11 := hru10.below hbv
          clear hru10
          have hrv := Gives.rd hov
          clear hov
          go_wp2_with fail
          refine hKa.out _ _ hS11 ?_
          clear hKa Ka
          have hsm11 : decide ((⟨vK, vlo, vhi, vf, vg, vo, vno⟩ : Sp) = (⟨aK, alo, ahi, af, ag, ao, ano⟩ : Sp)) = true := (in_meet hca hcb himv).trans HQ1.out
          have hsl11 : vd ≤ 100000 := by omega
          have hsr11 : ad ≤ 100000 := by omega
          refine wpAnyH_one (i := 44) (by kernel_rfl) rfl (by rfl) (fun Ka hKa => ?_)
          go_simp
          with_reducible refine (refSame_is vK vlo vhi vf vg vo Xv vd ve aK alo ahi af ag ao Xa ad ae x11 vno ano hlv hsl11 hla hsr11 hrv hra11 true hsm11).mono ?_
          rintro e x12 ⟨rfl, hg11⟩
          have hS12 := below_next hS11 (Nat.le_refl _) hg11.below
          clear hsm11
          have hra12 := hra11.below hg11.below
          clear hra11
          have hrb12 := hrb11.below hg11.below
          clear hrb11
          have hrp12 := hrp11.below hg11.below
          clear hrp11
          have hrr12 := hrr11.below hg11.below
          clear hrr11
          have hru12 := hru11.below hg11.below
          clear hru11
          have hrv12 := hrv.below hg11.below
          clear hrv
          go_wp2_with fail
          refine hKa.out _ _ hS12 ?_
          clear hKa Ka
          refine wpAnyH_yes (i := 45) (d := 71) (v := ?_) rfl rfl (by kernel_rfl) (by kernel_rfl) (by kernel_rfl) (fun _ _ _ h => h) (by rfl) ?_ hS12 ?_
          rotate_left
          · intro w' hSw; go_simp <;> with_reducible rfl
          simp only [Act.put, List.setIfInBounds_toArray, List.set_cons_zero, List.set_cons_succ]
          refine wpAnyH_yes (i := 46) (d := 72) (v := ?_) rfl rfl (by kernel_rfl) (by kernel_rfl) (by kernel_rfl) (fun _ _ _ h => h) (by rfl) ?_ hS12 ?_
          rotate_left
          · intro w' hSw; go_simp <;> with_reducible rfl
          simp only [Act.put, List.setIfInBounds_toArray, List.set_cons_zero, List.set_cons_succ]
          refine wpAnyH_yes (i := 47) (d := 4) (v := ?_) rfl rfl (by kernel_rfl) (by kernel_rfl) (by kernel_rfl) (fun _ _ _ h => h) (by rfl) ?_ hS12 ?_
          rotate_left
          · intro w' hSw; go_simp <;> with_reducible rfl
          simp only [Act.put, List.setIfInBounds_toArray, List.set_cons_zero, List.set_cons_succ]
          refine wpAnyH_done (by kernel_rfl) ?_ _
          go_wp2_with fail
          go_ret
          exact ⟨rfl, below_next HBD.out (by have := HBD.out.size; omega) hS12⟩

/-! ### The row's step. -/
namespace spanOne
theorem own : ownKnob Try.prog.godebug = none := by kernel_rfl
theorem laidOut : laidOutB Try.prog = true := by kernel_rfl
set_option linter.unusedVariables false in
set_option maxRecDepth 100000 in
theorem lifted (os : Os) (started : os.Started) (H : Type) (enc : TypeId × Value → H) :
    ReturnsInHanded {} Try.checked os 6 .any (Rows.spanOneSpec.pre6 enc Try.prog Try.f6 Rows.spanOneRow.domain false) (Rows.spanOneSpec.post enc Try.prog Try.f6 false true false false) := by
  refine returnsInHanded_of_change_sized (C := Try.checked) own started (by kernel_rfl) Try.func6
    (ChangeSpec.witness6 (enc := enc) (C := Try.checked) false ⟨#[], #[.slice none 0 0, .slice none 0 0], []⟩ 8 (by kernel_rfl) (by kernel_rfl) (by kernel_rfl) (by kernel_rfl)) ?_
  intro W base args ds gs before hval0 hW hcnd hsz0 _
  have hval : ∀ (j : Nat) t v, Try.f6.params[j]? = some t → args[j]? = some v → Value.okWide Try.prog W .any base t v := hval0
  have hsz : (DataW.weightsEach Try.prog (Try.f6.params.toList ++ Rows.spanOneSpec.plain.varTypes Try.prog) (ds ++ gs)).all (· ≤ reachBytes) = true := hsz0
  have hW' := hW
  obtain ⟨p, q, hA0, hV, rfl, hfz, hnd⟩ := hW
  have hA : DataW.TrodAll enc Try.prog W 0 (fun _ => true) true Try.f6.params.toList args.toList ds p := hA0
  rw [Try.params6] at hA hval hsz
  obtain ⟨v0, vs0, d0, ds0, p0, q0, hargs, rfl, rfl, h0, r0⟩ := trodAll_cons hA
  obtain ⟨v1, vs1, d1, ds1, p1, q1, rfl, rfl, rfl, h1, r1⟩ := trodAll_cons r0
  obtain ⟨rfl, rfl, rfl⟩ := trodAll_nil r1
  obtain rfl : args = #[v0, v1] := by cases args; simp_all
  obtain ⟨rfl, rfl⟩ := trodVars_none hV
  obtain ⟨a0, len0, cap0, rfl⟩ := okWide_slice Try.underlying22 (hval 0 22 v0 rfl rfl)
  have k0 := h0
  have lt0 : ∀ x ∈ p0, x.block < W.heap.size := by obtain ⟨m, hm⟩ := k0; exact DataW.trod_lt m _ _ _ hm
  obtain ⟨es0, hl0, hc0, hm0, rd0, hw0⟩ := open_preds_of Try.underlying22 Try.underlying40 (by kernel_rfl) ⟨rfl, rfl, by kernel_rfl⟩ ⟨rfl, rfl, by kernel_rfl⟩ ⟨rfl, rfl, by kernel_rfl⟩ Try.underlying9 Try.underlying3 Try.underlying24 ⟨rfl, rfl, by kernel_rfl⟩ ⟨rfl, rfl, by kernel_rfl⟩ ⟨rfl, rfl, by kernel_rfl⟩ Try.underlying3 Try.underlying3 Try.underlying9 k0
  obtain ⟨a1, len1, cap1, rfl⟩ := okWide_slice Try.underlying22 (hval 1 22 v1 rfl rfl)
  have k1 := h1
  have lt1 : ∀ x ∈ p1, x.block < W.heap.size := by obtain ⟨m, hm⟩ := k1; exact DataW.trod_lt m _ _ _ hm
  obtain ⟨es1, hl1, hc1, hm1, rd1, hw1⟩ := open_preds_of Try.underlying22 Try.underlying40 (by kernel_rfl) ⟨rfl, rfl, by kernel_rfl⟩ ⟨rfl, rfl, by kernel_rfl⟩ ⟨rfl, rfl, by kernel_rfl⟩ Try.underlying9 Try.underlying3 Try.underlying24 ⟨rfl, rfl, by kernel_rfl⟩ ⟨rfl, rfl, by kernel_rfl⟩ ⟨rfl, rfl, by kernel_rfl⟩ Try.underlying3 Try.underlying3 Try.underlying9 k1
  clear hA0 hval0
  refine (walk_SpanOne W a0 es0 len0 cap0 hl0 hc0 hm0 rd0 hw0 a1 es1 len1 cap1 hl1 hc1 hm1 rd1 hw1).mono fun e W' ⟨he, bel⟩ => ?_
  subst he
  exact ⟨_, rfl, _, _, _, [], _, [], hW', trodAll_mk1 (shut_bool Try.underlying4 _), (trodAll_cons_mk (Below.trod laidOut (by kernel_rfl) (of_decide_eq_true (by kernel_rfl)) k0 bel lt0) (trodAll_cons_mk (Below.trod laidOut (by kernel_rfl) (of_decide_eq_true (by kernel_rfl)) k1 bel lt1) trodAll_mk0)), rfl, bel.frame _, fun h => by cases h⟩
theorem over : Rows.spanOneRow.holds Try.pinned (OpenSpec.ofChange Rows.spanOneSpec) :=
  OpenClaim.holds_of_wide 6 Try.f6 rfl rfl rfl rfl rfl rfl rfl ⟨rfl, rfl, rfl, rfl, rfl⟩ rfl rfl rfl rfl rfl (by kernel_rfl) Try.func6 (by kernel_rfl)
    (of_decide_eq_true (by kernel_rfl)) (by unfold Func.isWrapper; first | (rw [if_pos (by decide +kernel)]; kernel_rfl) | (rw [if_neg (by decide +kernel)]; exact ⟨rfl, rfl⟩))
    (fun os started H enc _ => lifted os started H enc)
end spanOne
/-- THE STATEMENT. -/
theorem spanOne_holds : Rows.SpanOneSaid := spanOne.over
#print axioms spanOne_holds
end Go.Proofs.Ytcgmbgfbhdimeaa
