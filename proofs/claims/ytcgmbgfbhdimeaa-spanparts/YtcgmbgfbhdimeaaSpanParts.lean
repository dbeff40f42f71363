/-
  Meet can be told in any order, and in any parts: for every three rows of predicates the call of the law answers true, and all arguments read behind it as they read before. No condition.
-/
import Derived.Test.YtcgmbgfbhdimeaaSSml
import Derived.Test.YtcgmbgfbhdimeaaSArgs
namespace Go.Proofs.Ytcgmbgfbhdimeaa
open Go.RowKit Go.ChangeShapes Go.WideShapes Go.ChangeAt Go.Sort Spans
theorem meet_assoc {a b c p q r s : Sp} (h1 : IsMeet a b p) (h2 : IsMeet p c q) (h3 : IsMeet b c r) (h4 : IsMeet a r s) : q = s :=
  Spans.one h2.1 h4.1 fun v => by rw [h2.has v, h1.has v, h4.has v, h3.has v, Bool.and_assoc]
theorem meet_self {a u : Sp} (ha : Canon a) (h : IsMeet a a u) : u = a := Spans.one h.1 ha fun v => by rw [h.has v, Bool.and_self]
theorem meet_all {a v : Sp} (ha : Canon a) (h : IsMeet a any_ v) : v = a := (h.one (meet_any ha).1)
theorem meet_no {a z : Sp} (h : IsMeet a none_ z) : none_ = z := (meet_none a none_ (.inr rfl)).one h
set_option maxRecDepth 100000 in
set_option maxHeartbeats 16000000 in
theorem walk_SpanParts (w : World) (A : Option Addr) (l : List Pr) (n c : Nat) (hn : l.length = n) (hc : n ≤ c) (hm : c ≤ maxLen) (hr : RdQ w A l) (hl : ∀ a ∈ l, a.n.length ≤ maxLen ∧ a.t.length ≤ maxLen ∧ (Lit.int .i64 a.i).wf = true) (A2 : Option Addr) (m : List Pr) (n2 c2 : Nat) (hn2 : m.length = n2) (hc2 : n2 ≤ c2) (hm2 : c2 ≤ maxLen) (hr2 : RdQ w A2 m) (hl2 : ∀ a ∈ m, a.n.length ≤ maxLen ∧ a.t.length ≤ maxLen ∧ (Lit.int .i64 a.i).wf = true) (A3 : Option Addr) (m3 : List Pr) (n3 c3 : Nat) (hn3 : m3.length = n3) (hc3 : n3 ≤ c3) (hm3 : c3 ≤ maxLen) (hr3 : RdQ w A3 m3) (hl3 : ∀ a ∈ m3, a.n.length ≤ maxLen ∧ a.t.length ≤ maxLen ∧ (Lit.int .i64 a.i).wf = true) :
    Calls Try.prog 8 #[.slice A n c, .slice A2 n2 c2, .slice A3 n3 c3] w fun e w' => e = .returned (.bool true) ∧ Below w.heap.size w w' := by
  rw [maxLen_num] at hm hm2 hm3
  have HL2 : Hid (∀ p ∈ l, p.n.length ≤ 9223372036854775807 ∧ p.t.length ≤ 9223372036854775807) := fun p hp => by have := hl p hp; rw [maxLen_num] at this; exact ⟨this.1, this.2.1⟩
  have HL3 : Hid (∀ p ∈ l, -9223372036854775808 ≤ p.i ∧ p.i ≤ 9223372036854775807) := fun p hp => bounds_i64 (hl p hp).2.2
  have HN := Lib.hid hn
  have HR := Lib.hid hr
  obtain ⟨b1, hb1⟩ : ∃ b, fewP l = b := ⟨_, rfl⟩
  have HF1 := Lib.hid hb1
  clear hn hl hr hb1
  have HL22 : Hid (∀ p ∈ m, p.n.length ≤ 9223372036854775807 ∧ p.t.length ≤ 9223372036854775807) := fun p hp => by have := hl2 p hp; rw [maxLen_num] at this; exact ⟨this.1, this.2.1⟩
  have HL32 : Hid (∀ p ∈ m, -9223372036854775808 ≤ p.i ∧ p.i ≤ 9223372036854775807) := fun p hp => bounds_i64 (hl2 p hp).2.2
  have HN2 := Lib.hid hn2
  have HR2 := Lib.hid hr2
  obtain ⟨b2, hb2⟩ : ∃ b, fewP m = b := ⟨_, rfl⟩
  have HF2 := Lib.hid hb2
  clear hn2 hl2 hr2 hb2
  have HL23 : Hid (∀ p ∈ m3, p.n.length ≤ 9223372036854775807 ∧ p.t.length ≤ 9223372036854775807) := fun p hp => by have := hl3 p hp; rw [maxLen_num] at this; exact ⟨this.1, this.2.1⟩
  have HL33 : Hid (∀ p ∈ m3, -9223372036854775808 ≤ p.i ∧ p.i ≤ 9223372036854775807) := fun p hp => bounds_i64 (hl3 p hp).2.2
  have HN3 := Lib.hid hn3
  have HR3 := Lib.hid hr3
  obtain ⟨b3, hb3⟩ : ∃ b, fewP m3 = b := ⟨_, rfl⟩
  have HF3 := Lib.hid hb3
  clear hn3 hl3 hr3 hb3
  go_enter Try.func8, Try.ntmps8
  go_wp2_with fail
  refine (small_at w).mono ?_
  rintro e w1 ⟨rfl, hB1⟩
  go_wp2_with fail
  refine (few_at A l n c HN.out (by omega) HL2.out w1 (HR.out.below hB1) b1 HF1.out).mono ?_
  rintro e w1 ⟨rfl, rfl⟩
  go_wp2_with fail
  refine (few_at A2 m n2 c2 HN2.out (by omega) HL22.out w1 (HR2.out.below hB1) b2 HF2.out).mono ?_
  rintro e w1 ⟨rfl, rfl⟩
  go_wp2_with fail
  refine (few_at A3 m3 n3 c3 HN3.out (by omega) HL23.out w1 (HR3.out.below hB1) b3 HF3.out).mono ?_
  rintro e w1 ⟨rfl, rfl⟩
  cases b1 with
  | false =>
    go_wp2_with fail
    go_ret
    exact ⟨rfl, hB1⟩
  | true =>
    cases b2 with
    | false =>
      go_wp2_with fail
      go_ret
      exact ⟨rfl, hB1⟩
    | true =>
      cases b3 with
      | false =>
        go_wp2_with fail
        go_ret
        exact ⟨rfl, hB1⟩
      | true =>
        have HB1 := Lib.hid hB1
        clear hB1
        go_wp2_with fail
        have hfa := HF1.out
        unfold fewP at hfa
        rw [Bool.and_eq_true, decide_eq_true_iff, decide_eq_true_iff] at hfa
        have HSHa := Lib.hid hfa.1
        have h24a : n ≤ 24 := by have := HN.out; omega
        clear hfa
        refine (fold_at A l n c HN.out (by omega) (fun p hp => ⟨(HSHa.out p hp).1, (HSHa.out p hp).2, HL3.out p hp⟩) w1 (HR.out.below HB1.out)).mono ?_
        rintro e w2 ⟨⟨aK, alo, ahi, af, ag, ao, ano⟩, halla, hrla, Xa, ad, ae, rfl, hlda, _, hoa, hba⟩
        dsimp only at hrla hlda hoa
        have HCa : Hid (Canon (⟨aK, alo, ahi, af, ag, ao, ano⟩ : Sp)) := halla.1
        have HLDa := Lib.hid hlda
        have h24ad : ad ≤ 24 := by have := HN.out; omega
        have hbba : Below w2.heap.size w2 (w2.alloc (.cells #[.int .i64 aK, .int .i64 alo, .int .i64 ahi, .string ⟨af.toArray⟩, .string ⟨ag.toArray⟩, .bool ao, .slice Xa ad ae] 29)) := (Below.refl _ _).alloc (Nat.le_refl _) _
        have HVa : Hid (Blk (w2.alloc (.cells #[.int .i64 aK, .int .i64 alo, .int .i64 ahi, .string ⟨af.toArray⟩, .string ⟨ag.toArray⟩, .bool ao, .slice Xa ad ae] 29)) w2.heap.size 29 #[.int .i64 aK, .int .i64 alo, .int .i64 ahi, .string ⟨af.toArray⟩, .string ⟨ag.toArray⟩, .bool ao, .slice Xa ad ae]) := Blk.new _ _ _
        have hsta := below_next hba (Nat.le_refl _) hbba
        have HB3 := Lib.hid (below_next HB1.out (by have := HB1.out.size; omega) hsta)
        have HXa := Lib.hid ((Gives.rd hoa).below hbba)
        clear halla hrla hlda hoa hba hbba hsta HB1
        go_wp2_with fail
        generalize w2.alloc (.cells #[.int .i64 aK, .int .i64 alo, .int .i64 ahi, .string ⟨af.toArray⟩, .string ⟨ag.toArray⟩, .bool ao, .slice Xa ad ae] 29) = w3 at *
        generalize w2.heap.size = Va at *
        have hfb := HF2.out
        unfold fewP at hfb
        rw [Bool.and_eq_true, decide_eq_true_iff, decide_eq_true_iff] at hfb
        have HSHb := Lib.hid hfb.1
        have h24b : n2 ≤ 24 := by have := HN2.out; omega
        clear hfb
        refine (fold_at A2 m n2 c2 HN2.out (by omega) (fun p hp => ⟨(HSHb.out p hp).1, (HSHb.out p hp).2, HL32.out p hp⟩) w3 (HR2.out.below HB3.out)).mono ?_
        rintro e w4 ⟨⟨bK, blo, bhi, bf, bg, bo, bno⟩, hallb, hrlb, Xb, bd, be, rfl, hldb, _, hob, hbb⟩
        dsimp only at hrlb hldb hob
        have HCb : Hid (Canon (⟨bK, blo, bhi, bf, bg, bo, bno⟩ : Sp)) := hallb.1
        have HLDb := Lib.hid hldb
        have h24bd : bd ≤ 24 := by have := HN2.out; omega
        have hbbb : Below w4.heap.size w4 (w4.alloc (.cells #[.int .i64 bK, .int .i64 blo, .int .i64 bhi, .string ⟨bf.toArray⟩, .string ⟨bg.toArray⟩, .bool bo, .slice Xb bd be] 29)) := (Below.refl _ _).alloc (Nat.le_refl _) _
        have HVb : Hid (Blk (w4.alloc (.cells #[.int .i64 bK, .int .i64 blo, .int .i64 bhi, .string ⟨bf.toArray⟩, .string ⟨bg.toArray⟩, .bool bo, .slice Xb bd be] 29)) w4.heap.size 29 #[.int .i64 bK, .int .i64 blo, .int .i64 bhi, .string ⟨bf.toArray⟩, .string ⟨bg.toArray⟩, .bool bo, .slice Xb bd be]) := Blk.new _ _ _
        have hstb := below_next hbb (Nat.le_refl _) hbbb
        have HB5 := Lib.hid (below_next HB3.out (by have := HB3.out.size; omega) hstb)
        have HXb := Lib.hid ((Gives.rd hob).below hbbb)
        have HVa' := Lib.hid (Blk.below HVa.out hstb HVa.out.lt)
        have HXa' := Lib.hid (HXa.out.below hstb)
        clear HVa HXa
        have HVa := HVa'
        have HXa := HXa'
        clear HVa' HXa'
        clear hallb hrlb hldb hob hbb hbbb hstb HB3
        go_wp2_with fail
        generalize w4.alloc (.cells #[.int .i64 bK, .int .i64 blo, .int .i64 bhi, .string ⟨bf.toArray⟩, .string ⟨bg.toArray⟩, .bool bo, .slice Xb bd be] 29) = w5 at *
        generalize w4.heap.size = Vb at *
        have hfc := HF3.out
        unfold fewP at hfc
        rw [Bool.and_eq_true, decide_eq_true_iff, decide_eq_true_iff] at hfc
        have HSHc := Lib.hid hfc.1
        have h24c : n3 ≤ 24 := by have := HN3.out; omega
        clear hfc
        refine (fold_at A3 m3 n3 c3 HN3.out (by omega) (fun p hp => ⟨(HSHc.out p hp).1, (HSHc.out p hp).2, HL33.out p hp⟩) w5 (HR3.out.below HB5.out)).mono ?_
        rintro e w6 ⟨⟨cK, clo, chi, cf, cg, co, cno⟩, hallc, hrlc, Xc, cd, ce, rfl, hldc, _, hoc, hbc⟩
        dsimp only at hrlc hldc hoc
        have HCc : Hid (Canon (⟨cK, clo, chi, cf, cg, co, cno⟩ : Sp)) := hallc.1
        have HLDc := Lib.hid hldc
        have h24cd : cd ≤ 24 := by have := HN3.out; omega
        have hbbc : Below w6.heap.size w6 (w6.alloc (.cells #[.int .i64 cK, .int .i64 clo, .int .i64 chi, .string ⟨cf.toArray⟩, .string ⟨cg.toArray⟩, .bool co, .slice Xc cd ce] 29)) := (Below.refl _ _).alloc (Nat.le_refl _) _
        have HVc : Hid (Blk (w6.alloc (.cells #[.int .i64 cK, .int .i64 clo, .int .i64 chi, .string ⟨cf.toArray⟩, .string ⟨cg.toArray⟩, .bool co, .slice Xc cd ce] 29)) w6.heap.size 29 #[.int .i64 cK, .int .i64 clo, .int .i64 chi, .string ⟨cf.toArray⟩, .string ⟨cg.toArray⟩, .bool co, .slice Xc cd ce]) := Blk.new _ _ _
        have hstc := below_next hbc (Nat.le_refl _) hbbc
        have HB7 := Lib.hid (below_next HB5.out (by have := HB5.out.size; omega) hstc)
        have HXc := Lib.hid ((Gives.rd hoc).below hbbc)
        have HVa' := Lib.hid (Blk.below HVa.out hstc HVa.out.lt)
        have HXa' := Lib.hid (HXa.out.below hstc)
        clear HVa HXa
        have HVa := HVa'
        have HXa := HXa'
        clear HVa' HXa'
        have HVb' := Lib.hid (Blk.below HVb.out hstc HVb.out.lt)
        have HXb' := Lib.hid (HXb.out.below hstc)
        clear HVb HXb
        have HVb := HVb'
        have HXb := HXb'
        clear HVb' HXb'
        clear hallc hrlc hldc hoc hbc hbbc hstc HB5
        go_wp2_with fail
        generalize w6.alloc (.cells #[.int .i64 cK, .int .i64 clo, .int .i64 chi, .string ⟨cf.toArray⟩, .string ⟨cg.toArray⟩, .bool co, .slice Xc cd ce] 29) = w7 at *
        generalize w6.heap.size = Vc at *
        have hVa : Blk w7.drew Va 29 #[.int .i64 aK, .int .i64 alo, .int .i64 ahi, .string ⟨af.toArray⟩, .string ⟨ag.toArray⟩, .bool ao, .slice Xa ad ae] := HVa.out
        have hVb : Blk w7.drew Vb 29 #[.int .i64 bK, .int .i64 blo, .int .i64 bhi, .string ⟨bf.toArray⟩, .string ⟨bg.toArray⟩, .bool bo, .slice Xb bd be] := HVb.out
        have hVc : Blk w7.drew Vc 29 #[.int .i64 cK, .int .i64 clo, .int .i64 chi, .string ⟨cf.toArray⟩, .string ⟨cg.toArray⟩, .bool co, .slice Xc cd ce] := HVc.out
        have hra0 : RdW w7.drew Xa ano := HXa.out.below (Below.refl _ _).drew
        have hrb0 : RdW w7.drew Xb bno := HXb.out.below (Below.refl _ _).drew
        have hrc0 : RdW w7.drew Xc cno := HXc.out.below (Below.refl _ _).drew
        have HBD : Hid (Below w.heap.size w w7.drew) := HB7.out.drew
        have hS0 : Below w7.drew.heap.size w7.drew w7.drew := Below.refl _ _
        have hca := HCa.out
        have hcb := HCb.out
        have hcc := HCc.out
        have hla : ano.length = ad := HLDa.out
        have hlb : bno.length = bd := HLDb.out
        have hlc : cno.length = cd := HLDc.out
        have hsa : ad ≤ 1000 := by omega
        have hsb : bd ≤ 1000 := by omega
        have hsc : cd ≤ 1000 := by omega
        have hqs := fun {p q r s : Sp} (h1 : IsMeet (⟨aK, alo, ahi, af, ag, ao, ano⟩ : Sp) (⟨bK, blo, bhi, bf, bg, bo, bno⟩ : Sp) p) (h2 : IsMeet p (⟨cK, clo, chi, cf, cg, co, cno⟩ : Sp) q) (h3 : IsMeet (⟨bK, blo, bhi, bf, bg, bo, bno⟩ : Sp) (⟨cK, clo, chi, cf, cg, co, cno⟩ : Sp) r) (h4 : IsMeet (⟨aK, alo, ahi, af, ag, ao, ano⟩ : Sp) r s) => meet_assoc h1 h2 h3 h4
        have haa := fun {u : Sp} (h : IsMeet (⟨aK, alo, ahi, af, ag, ao, ano⟩ : Sp) (⟨aK, alo, ahi, af, ag, ao, ano⟩ : Sp) u) => meet_self hca h
        have hav := fun {v : Sp} (h : IsMeet (⟨aK, alo, ahi, af, ag, ao, ano⟩ : Sp) ⟨4, 0, 0, [], [], false, []⟩ v) => meet_all hca h
        have han := fun {z : Sp} (h : IsMeet (⟨aK, alo, ahi, af, ag, ao, ano⟩ : Sp) ⟨0, 0, 0, [], [], false, []⟩ z) => meet_no h
        have hcA : Canon ⟨4, 0, 0, [], [], false, []⟩ := .inr (.inl rfl)
        have hcN : Canon ⟨0, 0, 0, [], [], false, []⟩ := .inl rfl
        have hz0 : ([] : List Val).length = 0 := rfl
        clear HVa HVb HVc HXa HXb HXc HB7
        refine wp_region_held_drew (S := fun w' => Below w7.drew.heap.size w7.drew w') (by kernel_rfl) hS0 (fun _ => ?_)
        generalize hx0 : w7.drew = x0 at *
        clear hx0
        refine wpAnyH_yes (i := 0) (d := 38) (v := ?_) rfl rfl (by kernel_rfl) (by kernel_rfl) (by kernel_rfl) (fun _ _ _ h => h) (by rfl) ?_ hS0 ?_
        rotate_left
        · intro w' hSw; go_simp <;> with_reducible rfl
        simp only [Act.put, List.setIfInBounds_toArray, List.set_cons_zero, List.set_cons_succ]
        refine wpAnyH_yes (i := 1) (d := 39) (v := ?_) rfl rfl (by kernel_rfl) (by kernel_rfl) (by kernel_rfl) (fun _ _ _ h => h) (by rfl) ?_ hS0 ?_
        rotate_left
        · intro w' hSw; go_simp <;> with_reducible rfl
        simp only [Act.put, List.setIfInBounds_toArray, List.set_cons_zero, List.set_cons_succ]
        refine wpAnyH_yes (i := 2) (d := 40) (v := ?_) rfl rfl (by kernel_rfl) (by kernel_rfl) (by kernel_rfl) (fun _ _ _ h => h) (by rfl) ?_ hS0 ?_
        rotate_left
        · intro w' hSw; obtain ⟨a0, a1, a2, a3, a4, a5, a6, _⟩ := blk7 (Blk.below hVa hSw hVa.lt); obtain ⟨b0, b1, b2, b3, b4, b5, b6, _⟩ := blk7 (Blk.below hVb hSw hVb.lt); obtain ⟨c0, c1, c2, c3, c4, c5, c6, _⟩ := blk7 (Blk.below hVc hSw hVc.lt); go_simp <;> with_reducible rfl
        simp only [Act.put, List.setIfInBounds_toArray, List.set_cons_zero, List.set_cons_succ]
        refine wpAnyH_yes (i := 3) (d := 41) (v := ?_) rfl rfl (by kernel_rfl) (by kernel_rfl) (by kernel_rfl) (fun _ _ _ h => h) (by rfl) ?_ hS0 ?_
        rotate_left
        · intro w' hSw; obtain ⟨a0, a1, a2, a3, a4, a5, a6, _⟩ := blk7 (Blk.below hVa hSw hVa.lt); obtain ⟨b0, b1, b2, b3, b4, b5, b6, _⟩ := blk7 (Blk.below hVb hSw hVb.lt); obtain ⟨c0, c1, c2, c3, c4, c5, c6, _⟩ := blk7 (Blk.below hVc hSw hVc.lt); go_simp <;> with_reducible rfl
        simp only [Act.put, List.setIfInBounds_toArray, List.set_cons_zero, List.set_cons_succ]
        refine wpAnyH_yes (i := 5) (d := 43) (v := ?_) rfl rfl (by kernel_rfl) (by kernel_rfl) (by kernel_rfl) (fun _ _ _ h => h) (by rfl) ?_ hS0 ?_
        rotate_left
        · intro w' hSw; obtain ⟨a0, a1, a2, a3, a4, a5, a6, _⟩ := blk7 (Blk.below hVa hSw hVa.lt); obtain ⟨b0, b1, b2, b3, b4, b5, b6, _⟩ := blk7 (Blk.below hVb hSw hVb.lt); obtain ⟨c0, c1, c2, c3, c4, c5, c6, _⟩ := blk7 (Blk.below hVc hSw hVc.lt); go_simp <;> with_reducible rfl
        simp only [Act.put, List.setIfInBounds_toArray, List.set_cons_zero, List.set_cons_succ]
        refine wpAnyH_yes (i := 7) (d := 45) (v := ?_) rfl rfl (by kernel_rfl) (by kernel_rfl) (by kernel_rfl) (fun _ _ _ h => h) (by rfl) ?_ hS0 ?_
        rotate_left
        · intro w' hSw; obtain ⟨a0, a1, a2, a3, a4, a5, a6, _⟩ := blk7 (Blk.below hVa hSw hVa.lt); obtain ⟨b0, b1, b2, b3, b4, b5, b6, _⟩ := blk7 (Blk.below hVb hSw hVb.lt); obtain ⟨c0, c1, c2, c3, c4, c5, c6, _⟩ := blk7 (Blk.below hVc hSw hVc.lt); go_simp <;> with_reducible rfl
        simp only [Act.put, List.setIfInBounds_toArray, List.set_cons_zero, List.set_cons_succ]
        refine wpAnyH_yes (i := 8) (d := 46) (v := ?_) rfl rfl (by kernel_rfl) (by kernel_rfl) (by kernel_rfl) (fun _ _ _ h => h) (by rfl) ?_ hS0 ?_
        rotate_left
        · intro w' hSw; obtain ⟨a0, a1, a2, a3, a4, a5, a6, _⟩ := blk7 (Blk.below hVa hSw hVa.lt); obtain ⟨b0, b1, b2, b3, b4, b5, b6, _⟩ := blk7 (Blk.below hVb hSw hVb.lt); obtain ⟨c0, c1, c2, c3, c4, c5, c6, _⟩ := blk7 (Blk.below hVc hSw hVc.lt); go_simp <;> with_reducible rfl
        simp only [Act.put, List.setIfInBounds_toArray, List.set_cons_zero, List.set_cons_succ]
        refine wpAnyH_yes (i := 9) (d := 47) (v := ?_) rfl rfl (by kernel_rfl) (by kernel_rfl) (by kernel_rfl) (fun _ _ _ h => h) (by rfl) ?_ hS0 ?_
        rotate_left
        · intro w' hSw; obtain ⟨a0, a1, a2, a3, a4, a5, a6, _⟩ := blk7 (Blk.below hVa hSw hVa.lt); obtain ⟨b0, b1, b2, b3, b4, b5, b6, _⟩ := blk7 (Blk.below hVb hSw hVb.lt); obtain ⟨c0, c1, c2, c3, c4, c5, c6, _⟩ := blk7 (Blk.below hVc hSw hVc.lt); go_simp <;> with_reducible rfl
        simp only [Act.put, List.setIfInBounds_toArray, List.set_cons_zero, List.set_cons_succ]
        refine wpAnyH_one (i := 4) (by kernel_rfl) rfl (by rfl) (fun Ka hKa => ?_)
        go_simp
        with_reducible refine (meet_at (⟨aK, alo, ahi, af, ag, ao, ano⟩ : Sp) (⟨bK, blo, bhi, bf, bg, bo, bno⟩ : Sp) hca hcb Xa ad ae Xb bd be x0 hla hsa hlb hsb hra0 hrb0).mono ?_
        rintro e x1 ⟨⟨pK, plo, phi, pf, pg, po, pno⟩, himp, hrlp, Xp, pd, pe, rfl, hlp, _, hop, hbp⟩
        dsimp only at hrlp hlp hop
        have hcp : Canon (⟨pK, plo, phi, pf, pg, po, pno⟩ : Sp) := himp.1
        have hsp : pd ≤ 1000 := by omega
        have hS1 := below_next hS0 (Nat.le_refl _) hbp
        have hra1 := hra0.below hbp
        clear hra0
        have hrb1 := hrb0.below hbp
        clear hrb0
        have hrc1 := hrc0.below hbp
        clear hrc0
        have hrp := Gives.rd hop
        clear hop
        go_wp2_with fail
        refine hKa.out _ _ hS1 ?_
        clear hKa Ka
        refine wpAnyH_one (i := 6) (by kernel_rfl) rfl (by rfl) (fun Ka hKa => ?_)
        go_simp
        with_reducible refine (meet_at (⟨pK, plo, phi, pf, pg, po, pno⟩ : Sp) (⟨cK, clo, chi, cf, cg, co, cno⟩ : Sp) hcp hcc Xp pd pe Xc cd ce x1 hlp hsp hlc hsc hrp hrc1).mono ?_
        rintro e x2 ⟨⟨qK, qlo, qhi, qf, qg, qo, qno⟩, himq, hrlq, Xq, qd, qe, rfl, hlq, _, hoq, hbq⟩
        dsimp only at hrlq hlq hoq
        have hcq : Canon (⟨qK, qlo, qhi, qf, qg, qo, qno⟩ : Sp) := himq.1
        have hsq : qd ≤ 1000 := by omega
        have hS2 := below_next hS1 (Nat.le_refl _) hbq
        have hra2 := hra1.below hbq
        clear hra1
        have hrb2 := hrb1.below hbq
        clear hrb1
        have hrc2 := hrc1.below hbq
        clear hrc1
        have hrp2 := hrp.below hbq
        clear hrp
        have hrq := Gives.rd hoq
        clear hoq
        go_wp2_with fail
        refine hKa.out _ _ hS2 ?_
        clear hKa Ka
        refine wpAnyH_one (i := 10) (by kernel_rfl) rfl (by rfl) (fun Ka hKa => ?_)
        go_simp
        with_reducible refine (meet_at (⟨bK, blo, bhi, bf, bg, bo, bno⟩ : Sp) (⟨cK, clo, chi, cf, cg, co, cno⟩ : Sp) hcb hcc Xb bd be Xc cd ce x2 hlb hsb hlc hsc hrb2 hrc2).mono ?_
        rintro e x3 ⟨⟨rK, rlo, rhi, rf, rg, ro, rno⟩, himr, hrlr, Xr, rd, re, rfl, hlr, _, hor, hbr⟩
        dsimp only at hrlr hlr hor
        have hcr : Canon (⟨rK, rlo, rhi, rf, rg, ro, rno⟩ : Sp) := himr.1
        have hsr : rd ≤ 1000 := by omega
        have hS3 := below_next hS2 (Nat.le_refl _) hbr
        have hra3 := hra2.below hbr
        clear hra2
        have hrb3 := hrb2.below hbr
        clear hrb2
        have hrc3 := hrc2.below hbr
        clear hrc2
        have hrp3 := hrp2.below hbr
        clear hrp2
        have hrq3 := hrq.below hbr
        clear hrq
        have hrr := Gives.rd hor
        clear hor
        go_wp2_with fail
        refine hKa.out _ _ hS3 ?_
        clear hKa Ka
        refine wpAnyH_one (i := 11) (by kernel_rfl) rfl (by rfl) (fun Ka hKa => ?_)
        go_simp
        with_reducible refine (meet_at (⟨aK, alo, ahi, af, ag, ao, ano⟩ : Sp) (⟨rK, rlo, rhi, rf, rg, ro, rno⟩ : Sp) hca hcr Xa ad ae Xr rd re x3 hla hsa hlr hsr hra3 hrr).mono ?_
        rintro e x4 ⟨⟨sK, slo, shi, sf, sg, so, sno⟩, hims, hrls, Xs, sd, se, rfl, hls, _, hos, hbs⟩
        dsimp only at hrls hls hos
        have hcs : Canon (⟨sK, slo, shi, sf, sg, so, sno⟩ : Sp) := hims.1
        have hss : sd ≤ 1000 := by omega
        have hS4 := below_next hS3 (Nat.le_refl _) hbs
        have hra4 := hra3.below hbs
        clear hra3
        have hrb4 := hrb3.below hbs
        clear hrb3
        have hrc4 := hrc3.below hbs
        clear hrc3
        have hrp4 := hrp3.below hbs
        clear hrp3
        have hrq4 := hrq3.below hbs
        clear hrq3
        have hrr4 := hrr.below hbs
        clear hrr
        have hrs := Gives.rd hos
        clear hos
        go_wp2_with fail
        refine hKa.out _ _ hS4 ?_
        clear hKa Ka
        have hsm4 : decide ((⟨qK, qlo, qhi, qf, qg, qo, qno⟩ : Sp) = (⟨sK, slo, shi, sf, sg, so, sno⟩ : Sp)) = true := decide_eq_true (hqs himp himq himr hims)
        have hsl4 : qd ≤ 100000 := by omega
        have hsr4 : sd ≤ 100000 := by omega
        refine wpAnyH_one (i := 12) (by kernel_rfl) rfl (by rfl) (fun Ka hKa => ?_)
        go_simp
        with_reducible refine (refSame_is qK qlo qhi qf qg qo Xq qd qe sK slo shi sf sg so Xs sd se x4 qno sno hlq hsl4 hls hsr4 hrq4 hrs true hsm4).mono ?_
        rintro e x5 ⟨rfl, hg4⟩
        have hS5 := below_next hS4 (Nat.le_refl _) hg4.below
        clear hsm4
        have hra5 := hra4.below hg4.below
        clear hra4
        have hrb5 := hrb4.below hg4.below
        clear hrb4
        have hrc5 := hrc4.below hg4.below
        clear hrc4
        have hrp5 := hrp4.below hg4.below
        clear hrp4
        have hrq5 := hrq4.below hg4.below
        clear hrq4
        have hrr5 := hrr4.below hg4.below
        clear hrr4
        have hrs5 := hrs.below hg4.below
        clear hrs
        go_wp2_with fail
        refine hKa.out _ _ hS5 ?_
        clear hKa Ka
        refine wpAnyH_yes (i := 13) (d := 51) (v := ?_) rfl rfl (by kernel_rfl) (by kernel_rfl) (by kernel_rfl) (fun _ _ _ h => h) (by rfl) ?_ hS5 ?_
        rotate_left
        · intro w' hSw; go_simp <;> with_reducible rfl
        simp only [Act.put, List.setIfInBounds_toArray, List.set_cons_zero, List.set_cons_succ]
        refine wpAnyH_yes (i := 14) (d := 52) (v := ?_) rfl rfl (by kernel_rfl) (by kernel_rfl) (by kernel_rfl) (fun _ _ _ h => h) (by rfl) ?_ hS5 ?_
        rotate_left
        · intro w' hSw; go_simp <;> with_reducible rfl
        simp only [Act.put, List.setIfInBounds_toArray, List.set_cons_zero, List.set_cons_succ]
        refine wpAnyH_yes (i := 15) (d := 53) (v := ?_) rfl rfl (by kernel_rfl) (by kernel_rfl) (by kernel_rfl) (fun _ _ _ h => h) (by rfl) ?_ hS5 ?_
        rotate_left
        · intro w' hSw; obtain ⟨a0, a1, a2, a3, a4, a5, a6, _⟩ := blk7 (Blk.below hVa hSw hVa.lt); obtain ⟨b0, b1, b2, b3, b4, b5, b6, _⟩ := blk7 (Blk.below hVb hSw hVb.lt); obtain ⟨c0, c1, c2, c3, c4, c5, c6, _⟩ := blk7 (Blk.below hVc hSw hVc.lt); go_simp <;> with_reducible rfl
        simp only [Act.put, List.setIfInBounds_toArray, List.set_cons_zero, List.set_cons_succ]
        refine wpAnyH_yes (i := 16) (d := 54) (v := ?_) rfl rfl (by kernel_rfl) (by kernel_rfl) (by kernel_rfl) (fun _ _ _ h => h) (by rfl) ?_ hS5 ?_
        rotate_left
        · intro w' hSw; obtain ⟨a0, a1, a2, a3, a4, a5, a6, _⟩ := blk7 (Blk.below hVa hSw hVa.lt); obtain ⟨b0, b1, b2, b3, b4, b5, b6, _⟩ := blk7 (Blk.below hVb hSw hVb.lt); obtain ⟨c0, c1, c2, c3, c4, c5, c6, _⟩ := blk7 (Blk.below hVc hSw hVc.lt); go_simp <;> with_reducible rfl
        simp only [Act.put, List.setIfInBounds_toArray, List.set_cons_zero, List.set_cons_succ]
        refine wpAnyH_yes (i := 18) (d := 56) (v := ?_) rfl rfl (by kernel_rfl) (by kernel_rfl) (by kernel_rfl) (fun _ _ _ h => h) (by rfl) ?_ hS5 ?_
        rotate_left
        · intro w' hSw; obtain ⟨a0, a1, a2, a3, a4, a5, a6, _⟩ := blk7 (Blk.below hVa hSw hVa.lt); obtain ⟨b0, b1, b2, b3, b4, b5, b6, _⟩ := blk7 (Blk.below hVb hSw hVb.lt); obtain ⟨c0, c1, c2, c3, c4, c5, c6, _⟩ := blk7 (Blk.below hVc hSw hVc.lt); go_simp <;> with_reducible rfl
        simp only [Act.put, List.setIfInBounds_toArray, List.set_cons_zero, List.set_cons_succ]
        refine wpAnyH_one (i := 17) (by kernel_rfl) rfl (by rfl) (fun Ka hKa => ?_)
        go_simp
        with_reducible refine (meet_at (⟨aK, alo, ahi, af, ag, ao, ano⟩ : Sp) (⟨aK, alo, ahi, af, ag, ao, ano⟩ : Sp) hca hca Xa ad ae Xa ad ae x5 hla hsa hla hsa hra5 hra5).mono ?_
        rintro e x6 ⟨⟨uK, ulo, uhi, uf, ug, uo, uno⟩, himu, hrlu, Xu, ud, ue, rfl, hlu, _, hou, hbu⟩
        dsimp only at hrlu hlu hou
        have hcu : Canon (⟨uK, ulo, uhi, uf, ug, uo, uno⟩ : Sp) := himu.1
        have hsu : ud ≤ 1000 := by omega
        have hS6 := below_next hS5 (Nat.le_refl _) hbu
        have hra6 := hra5.below hbu
        clear hra5
        have hrb6 := hrb5.below hbu
        clear hrb5
        have hrc6 := hrc5.below hbu
        clear hrc5
        have hrp6 := hrp5.below hbu
        clear hrp5
        have hrq6 := hrq5.below hbu
        clear hrq5
        have hrr6 := hrr5.below hbu
        clear hrr5
        have hrs6 := hrs5.below hbu
        clear hrs5
        have hru := Gives.rd hou
        clear hou
        go_wp2_with fail
        refine hKa.out _ _ hS6 ?_
        clear hKa Ka
        have hsm6 : decide ((⟨uK, ulo, uhi, uf, ug, uo, uno⟩ : Sp) = (⟨aK, alo, ahi, af, ag, ao, ano⟩ : Sp)) = true := decide_eq_true (haa himu)
        have hsl6 : ud ≤ 100000 := by omega
        have hsr6 : ad ≤ 100000 := by omega
        refine wpAnyH_one (i := 19) (by kernel_rfl) rfl (by rfl) (fun Ka hKa => ?_)
        go_simp
        with_reducible refine (refSame_is uK ulo uhi uf ug uo Xu ud ue aK alo ahi af ag ao Xa ad ae x6 uno ano hlu hsl6 hla hsr6 hru hra6 true hsm6).mono ?_
        rintro e x7 ⟨rfl, hg6⟩
        have hS7 := below_next hS6 (Nat.le_refl _) hg6.below
        clear hsm6
        have hra7 := hra6.below hg6.below
        clear hra6
        have hrb7 := hrb6.below hg6.below
        clear hrb6
        have hrc7 := hrc6.below hg6.below
        clear hrc6
        have hrp7 := hrp6.below hg6.below
        clear hrp6
        have hrq7 := hrq6.below hg6.below
        clear hrq6
        have hrr7 := hrr6.below hg6.below
        clear hrr6
        have hrs7 := hrs6.below hg6.below
        clear hrs6
        have hru7 := hru.below hg6.below
        clear hru
        go_wp2_with fail
        refine hKa.out _ _ hS7 ?_
        clear hKa Ka
        refine wpAnyH_yes (i := 20) (d := 58) (v := ?_) rfl rfl (by kernel_rfl) (by kernel_rfl) (by kernel_rfl) (fun _ _ _ h => h) (by rfl) ?_ hS7 ?_
        rotate_left
        · intro w' hSw; go_simp <;> with_reducible rfl
        simp only [Act.put, List.setIfInBounds_toArray, List.set_cons_zero, List.set_cons_succ]
        refine wpAnyH_yes (i := 21) (d := 59) (v := ?_) rfl rfl (by kernel_rfl) (by kernel_rfl) (by kernel_rfl) (fun _ _ _ h => h) (by rfl) ?_ hS7 ?_
        rotate_left
        · intro w' hSw; go_simp <;> with_reducible rfl
        simp only [Act.put, List.setIfInBounds_toArray, List.set_cons_zero, List.set_cons_succ]
        refine wpAnyH_yes (i := 22) (d := 60) (v := ?_) rfl rfl (by kernel_rfl) (by kernel_rfl) (by kernel_rfl) (fun _ _ _ h => h) (by rfl) ?_ hS7 ?_
        rotate_left
        · intro w' hSw; obtain ⟨a0, a1, a2, a3, a4, a5, a6, _⟩ := blk7 (Blk.below hVa hSw hVa.lt); obtain ⟨b0, b1, b2, b3, b4, b5, b6, _⟩ := blk7 (Blk.below hVb hSw hVb.lt); obtain ⟨c0, c1, c2, c3, c4, c5, c6, _⟩ := blk7 (Blk.below hVc hSw hVc.lt); go_simp <;> with_reducible rfl
        simp only [Act.put, List.setIfInBounds_toArray, List.set_cons_zero, List.set_cons_succ]
        refine wpAnyH_yes (i := 25) (d := 63) (v := ?_) rfl rfl (by kernel_rfl) (by kernel_rfl) (by kernel_rfl) (fun _ _ _ h => h) (by rfl) ?_ hS7 ?_
        rotate_left
        · intro w' hSw; obtain ⟨a0, a1, a2, a3, a4, a5, a6, _⟩ := blk7 (Blk.below hVa hSw hVa.lt); obtain ⟨b0, b1, b2, b3, b4, b5, b6, _⟩ := blk7 (Blk.below hVb hSw hVb.lt); obtain ⟨c0, c1, c2, c3, c4, c5, c6, _⟩ := blk7 (Blk.below hVc hSw hVc.lt); go_simp <;> with_reducible rfl
        simp only [Act.put, List.setIfInBounds_toArray, List.set_cons_zero, List.set_cons_succ]
        refine wpAnyH_one (i := 23) (by kernel_rfl) rfl (by rfl) (fun Ka hKa => ?_)
        go_simp
        with_reducible refine (all_at x7).mono ?_
        rintro e x8 ⟨rfl, hg7⟩
        have hS8 := below_next hS7 (Nat.le_refl _) hg7.below
        have hra8 := hra7.below hg7.below
        clear hra7
        have hrb8 := hrb7.below hg7.below
        clear hrb7
        have hrc8 := hrc7.below hg7.below
        clear hrc7
        have hrp8 := hrp7.below hg7.below
        clear hrp7
        have hrq8 := hrq7.below hg7.below
        clear hrq7
        have hrr8 := hrr7.below hg7.below
        clear hrr7
        have hrs8 := hrs7.below hg7.below
        clear hrs7
        have hru8 := hru7.below hg7.below
        clear hru7
        go_wp2_with fail
        refine hKa.out _ _ hS8 ?_
        clear hKa Ka
        refine wpAnyH_one (i := 24) (by kernel_rfl) rfl (by rfl) (fun Ka hKa => ?_)
        go_simp
        have hzv : RdW x8 none ([] : List Val) := RdK.nil _ _
        with_reducible refine (meet_at (⟨aK, alo, ahi, af, ag, ao, ano⟩ : Sp) (⟨4, 0, 0, [], [], false, []⟩ : Sp) hca hcA Xa ad ae none 0 0 x8 hla hsa hz0 (by omega) hra8 hzv).mono ?_
        rintro e x9 ⟨⟨vK, vlo, vhi, vf, vg, vo, vno⟩, himv, hrlv, Xv, vd, ve, rfl, hlv, _, hov, hbv⟩
        dsimp only at hrlv hlv hov
        have hcv : Canon (⟨vK, vlo, vhi, vf, vg, vo, vno⟩ : Sp) := himv.1
        have hS9 := below_next hS8 (Nat.le_refl _) hbv
        have hra9 := hra8.below hbv
        clear hra8
        have hrb9 := hrb8.below hbv
        clear hrb8
        have hrc9 := hrc8.below hbv
        clear hrc8
        have hrp9 := hrp8.below hbv
        clear hrp8
        have hrq9 := hrq8.below hbv
        clear hrq8
        have hrr9 := hrr8.below hbv
        clear hrr8
        have hrs9 := hrs8.below hbv
        clear hrs8
        have hru9 := hru8.below hbv
        clear hru8
        have hrv := Gives.rd hov
        clear hov
        have hsv : vd ≤ 1000 := by simp at hrlv; omega
        go_wp2_with fail
        refine hKa.out _ _ hS9 ?_
        clear hKa Ka
        have hsm9 : decide ((⟨vK, vlo, vhi, vf, vg, vo, vno⟩ : Sp) = (⟨aK, alo, ahi, af, ag, ao, ano⟩ : Sp)) = true := decide_eq_true (hav himv)
        have hsl9 : vd ≤ 100000 := by omega
        have hsr9 : ad ≤ 100000 := by omega
        refine wpAnyH_one (i := 26) (by kernel_rfl) rfl (by rfl) (fun Ka hKa => ?_)
        go_simp
        with_reducible refine (refSame_is vK vlo vhi vf vg vo Xv vd ve aK alo ahi af ag ao Xa ad ae x9 vno ano hlv hsl9 hla hsr9 hrv hra9 true hsm9).mono ?_
        rintro e x10 ⟨rfl, hg9⟩
        have hS10 := below_next hS9 (Nat.le_refl _) hg9.below
        clear hsm9
        have hra10 := hra9.below hg9.below
        clear hra9
        have hrb10 := hrb9.below hg9.below
        clear hrb9
        have hrc10 := hrc9.below hg9.below
        clear hrc9
        have hrp10 := hrp9.below hg9.below
        clear hrp9
        have hrq10 := hrq9.below hg9.below
        clear hrq9
        have hrr10 := hrr9.below hg9.below
        clear hrr9
        have hrs10 := hrs9.below hg9.below
        clear hrs9
        have hru10 := hru9.below hg9.below
        clear hru9
        have hrv10 := hrv.below hg9.below
        clear hrv
        go_wp2_with fail
        refine hKa.out _ _ hS10 ?_
        clear hKa Ka
        refine wpAnyH_yes (i := 27) (d := 65) (v := ?_) rfl rfl (by kernel_rfl) (by kernel_rfl) (by kernel_rfl) (fun _ _ _ h => h) (by rfl) ?_ hS10 ?_
        rotate_left
        · intro w' hSw; go_simp <;> with_reducible rfl
        simp only [Act.put, List.setIfInBounds_toArray, List.set_cons_zero, List.set_cons_succ]
        refine wpAnyH_yes (i := 28) (d := 66) (v := ?_) rfl rfl (by kernel_rfl) (by kernel_rfl) (by kernel_rfl) (fun _ _ _ h => h) (by rfl) ?_ hS10 ?_
        rotate_left
        · intro w' hSw; go_simp <;> with_reducible rfl
        simp only [Act.put, List.setIfInBounds_toArray, List.set_cons_zero, List.set_cons_succ]
        refine wpAnyH_yes (i := 29) (d := 67) (v := ?_) rfl rfl (by kernel_rfl) (by kernel_rfl) (by kernel_rfl) (fun _ _ _ h => h) (by rfl) ?_ hS10 ?_
        rotate_left
        · intro w' hSw; obtain ⟨a0, a1, a2, a3, a4, a5, a6, _⟩ := blk7 (Blk.below hVa hSw hVa.lt); obtain ⟨b0, b1, b2, b3, b4, b5, b6, _⟩ := blk7 (Blk.below hVb hSw hVb.lt); obtain ⟨c0, c1, c2, c3, c4, c5, c6, _⟩ := blk7 (Blk.below hVc hSw hVc.lt); go_simp <;> with_reducible rfl
        simp only [Act.put, List.setIfInBounds_toArray, List.set_cons_zero, List.set_cons_succ]
        refine wpAnyH_yes (i := 30) (d := 68) (v := ?_) rfl rfl (by kernel_rfl) (by kernel_rfl) (by kernel_rfl) (fun _ _ _ h => h) (by rfl) ?_ hS10 ?_
        rotate_left
        · intro w' hSw; go_simp <;> with_reducible rfl
        simp only [Act.put, List.setIfInBounds_toArray, List.set_cons_zero, List.set_cons_succ]
        refine wpAnyH_one (i := 31) (by kernel_rfl) rfl (by rfl) (fun Ka hKa => ?_)
        go_simp
        have hzz : RdW x10 none ([] : List Val) := RdK.nil _ _
        with_reducible refine (meet_at (⟨aK, alo, ahi, af, ag, ao, ano⟩ : Sp) (⟨0, 0, 0, [], [], false, []⟩ : Sp) hca hcN Xa ad ae none 0 0 x10 hla hsa hz0 (by omega) hra10 hzz).mono ?_
        rintro e x11 ⟨⟨zK, zlo, zhi, zf, zg, zo, zno⟩, himz, hrlz, Xz, zd, ze, rfl, hlz, _, hoz, hbz⟩
        dsimp only at hrlz hlz hoz
        have hcz : Canon (⟨zK, zlo, zhi, zf, zg, zo, zno⟩ : Sp) := himz.1
        have hS11 := below_next hS10 (Nat.le_refl _) hbz
        have hra11 := hra10.below hbz
        clear hra10
        have hrb11 := hrb10.below hbz
        clear hrb10
        have hrc11 := hrc10.below hbz
        clear hrc10
        have hrp11 := hrp10.below hbz
        clear hrp10
        have hrq11 := hrq10.below hbz
        clear hrq10
        have hrr11 := hrr10.below hbz
        clear hrr10
        have hrs11 := hrs10.below hbz
        clear hrs10
        have hru11 := hru10.below hbz
        clear hru10
        have hrv11 := hrv10.below hbz
        clear hrv10
        have hrz := Gives.rd hoz
        clear hoz
        have ez := han himz
        injection ez with e1 e2 e3 e4 e5 e6 e7
        subst e1; subst e2; subst e3; subst e4; subst e5; subst e6; subst e7
        have hfld : ∀ W, (Instr.field 29 (spF 0 0 0 [] [] false Xz zd ze) 0).run Try.prog W = .ok (.int .i64 0) W := fun W => by kernel_rfl
        go_wp2_with fail
        refine hKa.out _ _ hS11 ?_
        clear hKa Ka
        refine wpAnyH_yes (i := 32) (d := 70) (v := ?_) rfl rfl (by kernel_rfl) (by kernel_rfl) (by kernel_rfl) (fun _ _ _ h => h) (by rfl) ?_ hS11 ?_
        rotate_left
        · intro w' hSw; go_simp <;> with_reducible rfl
        simp only [Act.put, List.setIfInBounds_toArray, List.set_cons_zero, List.set_cons_succ]
        refine wpAnyH_yes (i := 33) (d := 71) (v := ?_) rfl rfl (by kernel_rfl) (by kernel_rfl) (by kernel_rfl) (fun _ _ _ h => h) (by rfl) ?_ hS11 ?_
        rotate_left
        · intro w' hSw; go_simp <;> with_reducible rfl
        simp only [Act.put, List.setIfInBounds_toArray, List.set_cons_zero, List.set_cons_succ]
        refine wpAnyH_yes (i := 34) (d := 72) (v := ?_) rfl rfl (by kernel_rfl) (by kernel_rfl) (by kernel_rfl) (fun _ _ _ h => h) (by rfl) ?_ hS11 ?_
        rotate_left
        · intro w' hSw; go_simp <;> with_reducible rfl
        simp only [Act.put, List.setIfInBounds_toArray, List.set_cons_zero, List.set_cons_succ]
        refine wpAnyH_yes (i := 35) (d := 6) (v := ?_) rfl rfl (by kernel_rfl) (by kernel_rfl) (by kernel_rfl) (fun _ _ _ h => h) (by rfl) ?_ hS11 ?_
        rotate_left
        · intro w' hSw; go_simp <;> with_reducible rfl
        simp only [Act.put, List.setIfInBounds_toArray, List.set_cons_zero, List.set_cons_succ]
        refine wpAnyH_done (by kernel_rfl) ?_ _
        go_wp2_with fail
        go_ret
        exact ⟨rfl, below_next HBD.out (by have := HBD.out.size; omega) hS11⟩

/-! ### The row's step. -/
namespace spanParts
theorem own : ownKnob Try.prog.godebug = none := by kernel_rfl
theorem laidOut : laidOutB Try.prog = true := by kernel_rfl
set_option linter.unusedVariables false in
set_option maxRecDepth 100000 in
theorem lifted (os : Os) (started : os.Started) (H : Type) (enc : TypeId × Value → H) :
    ReturnsInHanded {} Try.checked os 8 .any (Rows.spanPartsSpec.pre6 enc Try.prog Try.f8 Rows.spanPartsRow.domain false) (Rows.spanPartsSpec.post enc Try.prog Try.f8 false true false false) := by
  refine returnsInHanded_of_change_sized (C := Try.checked) own started (by kernel_rfl) Try.func8
    (ChangeSpec.witness6 (enc := enc) (C := Try.checked) false ⟨#[], #[.slice none 0 0, .slice none 0 0, .slice none 0 0], []⟩ 8 (by kernel_rfl) (by kernel_rfl) (by kernel_rfl) (by kernel_rfl)) ?_
  intro W base args ds gs before hval0 hW hcnd hsz0 _
  have hval : ∀ (j : Nat) t v, Try.f8.params[j]? = some t → args[j]? = some v → Value.okWide Try.prog W .any base t v := hval0
  have hsz : (DataW.weightsEach Try.prog (Try.f8.params.toList ++ Rows.spanPartsSpec.plain.varTypes Try.prog) (ds ++ gs)).all (· ≤ reachBytes) = true := hsz0
  have hW' := hW
  obtain ⟨p, q, hA0, hV, rfl, hfz, hnd⟩ := hW
  have hA : DataW.TrodAll enc Try.prog W 0 (fun _ => true) true Try.f8.params.toList args.toList ds p := hA0
  rw [Try.params8] at hA hval hsz
  obtain ⟨v0, vs0, d0, ds0, p0, q0, hargs, rfl, rfl, h0, r0⟩ := trodAll_cons hA
  obtain ⟨v1, vs1, d1, ds1, p1, q1, rfl, rfl, rfl, h1, r1⟩ := trodAll_cons r0
  obtain ⟨v2, vs2, d2, ds2, p2, q2, rfl, rfl, rfl, h2, r2⟩ := trodAll_cons r1
  obtain ⟨rfl, rfl, rfl⟩ := trodAll_nil r2
  obtain rfl : args = #[v0, v1, v2] := by cases args; simp_all
  obtain ⟨rfl, rfl⟩ := trodVars_none hV
  obtain ⟨a0, len0, cap0, rfl⟩ := okWide_slice Try.underlying22 (hval 0 22 v0 rfl rfl)
  have k0 := h0
  have lt0 : ∀ x ∈ p0, x.block < W.heap.size := by obtain ⟨m, hm⟩ := k0; exact DataW.trod_lt m _ _ _ hm
  obtain ⟨es0, hl0, hc0, hm0, rd0, hw0⟩ := open_preds_of Try.underlying22 Try.underlying40 (by kernel_rfl) ⟨rfl, rfl, by kernel_rfl⟩ ⟨rfl, rfl, by kernel_rfl⟩ ⟨rfl, rfl, by kernel_rfl⟩ Try.underlying9 Try.underlying3 Try.underlying24 ⟨rfl, rfl, by kernel_rfl⟩ ⟨rfl, rfl, by kernel_rfl⟩ ⟨rfl, rfl, by kernel_rfl⟩ Try.underlying3 Try.underlying3 Try.underlying9 k0
  obtain ⟨a1, len1, cap1, rfl⟩ := okWide_slice Try.underlying22 (hval 1 22 v1 rfl rfl)
  have k1 := h1
  have lt1 : ∀ x ∈ p1, x.block < W.heap.size := by obtain ⟨m, hm⟩ := k1; exact DataW.trod_lt m _ _ _ hm
  obtain ⟨es1, hl1, hc1, hm1, rd1, hw1⟩ := open_preds_of Try.underlying22 Try.underlying40 (by kernel_rfl) ⟨rfl, rfl, by kernel_rfl⟩ ⟨rfl, rfl, by kernel_rfl⟩ ⟨rfl, rfl, by kernel_rfl⟩ Try.underlying9 Try.underlying3 Try.underlying24 ⟨rfl, rfl, by kernel_rfl⟩ ⟨rfl, rfl, by kernel_rfl⟩ ⟨rfl, rfl, by kernel_rfl⟩ Try.underlying3 Try.underlying3 Try.underlying9 k1
  obtain ⟨a2, len2, cap2, rfl⟩ := okWide_slice Try.underlying22 (hval 2 22 v2 rfl rfl)
  have k2 := h2
  have lt2 : ∀ x ∈ p2, x.block < W.heap.size := by obtain ⟨m, hm⟩ := k2; exact DataW.trod_lt m _ _ _ hm
  obtain ⟨es2, hl2, hc2, hm2, rd2, hw2⟩ := open_preds_of Try.underlying22 Try.underlying40 (by kernel_rfl) ⟨rfl, rfl, by kernel_rfl⟩ ⟨rfl, rfl, by kernel_rfl⟩ ⟨rfl, rfl, by kernel_rfl⟩ Try.underlying9 Try.underlying3 Try.underlying24 ⟨rfl, rfl, by kernel_rfl⟩ ⟨rfl, rfl, by kernel_rfl⟩ ⟨rfl, rfl, by kernel_rfl⟩ Try.underlying3 Try.underlying3 Try.underlying9 k2
  clear hA0 hval0
  refine (walk_SpanParts W a0 es0 len0 cap0 hl0 hc0 hm0 rd0 hw0 a1 es1 len1 cap1 hl1 hc1 hm1 rd1 hw1 a2 es2 len2 cap2 hl2 hc2 hm2 rd2 hw2).mono fun e W' ⟨he, bel⟩ => ?_
  subst he
  exact ⟨_, rfl, _, _, _, [], _, [], hW', trodAll_mk1 (shut_bool Try.underlying4 _), (trodAll_cons_mk (Below.trod laidOut (by kernel_rfl) (of_decide_eq_true (by kernel_rfl)) k0 bel lt0) (trodAll_cons_mk (Below.trod laidOut (by kernel_rfl) (of_decide_eq_true (by kernel_rfl)) k1 bel lt1) (trodAll_cons_mk (Below.trod laidOut (by kernel_rfl) (of_decide_eq_true (by kernel_rfl)) k2 bel lt2) trodAll_mk0))), rfl, bel.frame _, fun h => by cases h⟩
theorem over : Rows.spanPartsRow.holds Try.pinned (OpenSpec.ofChange Rows.spanPartsSpec) :=
  OpenClaim.holds_of_wide 8 Try.f8 rfl rfl rfl rfl rfl rfl rfl ⟨rfl, rfl, rfl, rfl, rfl⟩ rfl rfl rfl rfl rfl (by kernel_rfl) Try.func8 (by kernel_rfl)
    (of_decide_eq_true (by kernel_rfl)) (by unfold Func.isWrapper; first | (rw [if_pos (by decide +kernel)]; kernel_rfl) | (rw [if_neg (by decide +kernel)]; exact ⟨rfl, rfl⟩))
    (fun os started H enc _ => lifted os started H enc)
end spanParts
/-- THE STATEMENT. -/
theorem spanParts_holds : Rows.SpanPartsSaid := spanParts.over
#print axioms spanParts_holds
end Go.Proofs.Ytcgmbgfbhdimeaa
