/- Package span: Has, In; the statements' Few and Fold. -/
import Derived.Test.YtcgmbgfbhdimeaaSMeetA
import Derived.Test.YtcgmbgfbhdimeaaSOfA
import Derived.Test.YtcgmbgfbhdimeaaSSame
namespace Go.Proofs.Ytcgmbgfbhdimeaa
open Go.RowKit Go.Sort Spans Op
/-- Has, field by field. -/
def hasF (K lo hi : Int) (f t : List UInt8) (o : Bool) (es : List Val) (k i : Int) (x : List UInt8) : Bool :=
  Vals.right k i x && (K == 4 || (K == k && ((if K = 2 then inT f t o x else inN lo hi i) && !decide ((⟨k, i, x⟩ : Val) ∈ es))))
set_option maxRecDepth 100000 in
set_option maxHeartbeats 4000000 in
theorem hasF_at (K lo hi : Int) (f t : List UInt8) (o : Bool) (A : Option Addr) (n c : Nat) (es : List Val) (k i : Int) (x : List UInt8) (w : World) (hn : es.length = n) (hm : n ≤ 100000) (hx : x.length ≤ 9223372036854775807) (hr : RdW w A es) :
    Calls Try.prog 18 #[spF K lo hi f t o A n c, .agg #[.int .i64 k, .int .i64 i, .string ⟨x.toArray⟩]] w fun e w' => e = .returned (.bool (hasF K lo hi f t o es k i x)) ∧ Grown w w' := by
  have HN := Lib.hid hn
  have HG0 := Lib.hid (gr2 w (.cells #[.int .i64 K, .int .i64 lo, .int .i64 hi, .string ⟨f.toArray⟩, .string ⟨t.toArray⟩, .bool o, .slice A n c] 29) (.cells #[.int .i64 k, .int .i64 i, .string ⟨x.toArray⟩] 24))
  have HR0 := Lib.hid (hr.below HG0.out.below)
  have hX0 := (Blk.new w 29 #[.int .i64 K, .int .i64 lo, .int .i64 hi, .string ⟨f.toArray⟩, .string ⟨t.toArray⟩, .bool o, .slice A n c]).alloc (.cells #[.int .i64 k, .int .i64 i, .string ⟨x.toArray⟩] 24)
  have hV0 := Blk.new (w.alloc (.cells #[.int .i64 K, .int .i64 lo, .int .i64 hi, .string ⟨f.toArray⟩, .string ⟨t.toArray⟩, .bool o, .slice A n c] 29)) 24 #[.int .i64 k, .int .i64 i, .string ⟨x.toArray⟩]
  rw [show (w.alloc (.cells #[.int .i64 K, .int .i64 lo, .int .i64 hi, .string ⟨f.toArray⟩, .string ⟨t.toArray⟩, .bool o, .slice A n c] 29)).heap.size = w.heap.size + 1 by simp] at hV0
  clear hn hr
  go_enter Try.func18, Try.ntmps18
  go_wp2_with fail
  generalize ((w.alloc (.cells #[.int .i64 K, .int .i64 lo, .int .i64 hi, .string ⟨f.toArray⟩, .string ⟨t.toArray⟩, .bool o, .slice A n c] 29)).alloc (.cells #[.int .i64 k, .int .i64 i, .string ⟨x.toArray⟩] 24)) = w0 at *
  refine (right_gr k i x w0 hx).mono ?_
  rintro e w1 ⟨rfl, hg1⟩
  have HG1 := Lib.hid (HG0.out.trans hg1)
  have HR1 := Lib.hid (HR0.out.below hg1.below)
  have hX1 := Blk.below hX0 hg1.below hX0.lt
  have hV1 := Blk.below hV0 hg1.below hV0.lt
  obtain ⟨a0, a1, a2, a3, a4, a5, a6, _⟩ := blk7 hX1
  obtain ⟨v0, v1, v2, _⟩ := blk3 hV1
  have hl1 := hX1.lt
  have hl2 := hV1.lt
  clear HG0 HR0 hX0 hV0 hg1
  cases hri : Vals.right k i x with
  | false =>
    go_wp2_with fail
    go_ret
    exact ⟨ret_b (by simp [hasF, hri]), HG1.out⟩
  | true =>
    have HRI := Lib.hid hri
    clear hri
    by_cases h4 : K = 4
    · subst h4
      go_wp2_with fail
      go_ret
      exact ⟨ret_b (by simp [hasF, HRI.out]), HG1.out⟩
    have q4 : (K == 4) = false := beq_eq_false_iff_ne.2 h4
    by_cases hkk : K = k
    · subst hkk
      have HBT : Hid (∀ W, Calls Try.prog 39 #[spF K lo hi f t o A n c, .agg #[.int .i64 K, .int .i64 i, .string ⟨x.toArray⟩]] W fun e w' => e = .returned (.bool (if K = 2 then inT f t o x else inN lo hi i)) ∧ Grown W w') := by
        intro W
        by_cases h2 : K = 2
        · subst h2; exact between_text lo hi f t o A n c 2 i x W
        · rw [if_neg h2]; exact between_num K lo hi f t o A n c K i x W h2
      go_wp2_with fail
      refine (HBT.out _).mono ?_
      rintro e w2 ⟨rfl, hg2⟩
      cases hb : (if K = 2 then inT f t o x else inN lo hi i) with
      | false =>
        have HBB := Lib.hid hb
        clear hb
        go_wp2_with fail
        go_ret
        exact ⟨ret_b (by simp [hasF, q4, HBB.out]), HG1.out.trans hg2⟩
      | true =>
        have HBB := Lib.hid hb
        clear hb
        have hX2 := Blk.below hX1 hg2.below hX1.lt
        have hV2 := Blk.below hV1 hg2.below hV1.lt
        have HR2 := Lib.hid (HR1.out.below hg2.below)
        clear a0 a1 a2 a3 a4 a5 a6 v0 v1 v2 hl1 hl2
        obtain ⟨a0, a1, a2, a3, a4, a5, a6, _⟩ := blk7 hX2
        obtain ⟨v0, v1, v2, _⟩ := blk3 hV2
        have hl1 := hX2.lt
        have hl2 := hV2.lt
        go_wp2_with fail
        refine (containsV_at A es n c HN.out hm K i x w2 HR2.out _ rfl).mono ?_
        rintro e w3 ⟨rfl, hg3⟩
        go_wp2_with fail
        go_ret
        refine ⟨ret_b ?_, (HG1.out.trans hg2).trans hg3⟩
        simp [hasF, HRI.out, q4, HBB.out]
    · have qk : (K == k) = false := beq_eq_false_iff_ne.2 hkk
      go_wp2_with fail
      go_ret
      exact ⟨ret_b (by simp [hasF, q4, qk]), HG1.out⟩
theorem hasF_is {a : Sp} (hc : Canon a) {v : Val} (h1 : -9223372036854775808 ≤ v.i) (h2 : v.i ≤ 9223372036854775807) : hasF a.kind a.lo a.hi a.frm a.to_ a.opn a.no v.k v.i v.t = has a v := by
  have hr : rightV v = Vals.right v.k v.i v.t := by unfold rightV; simp [h1, h2]
  unfold hasF has
  rw [← hr]
  by_cases h0 : a.kind = 0
  · have e := kind_none hc h0
    subst e
    cases hv : rightV v with
    | false => rfl
    | true =>
      have hk : v.k ≠ 0 := by
        rw [hr] at hv
        rcases Vals.right_cases hv with ⟨h, _⟩ | ⟨h, _⟩ | ⟨h, _⟩ <;> omega
      have : ((0 : Int) == v.k) = false := beq_eq_false_iff_ne.2 (Ne.symm hk)
      simp [none_, this]
  · rw [if_neg h0]
    by_cases h4 : a.kind = 4
    · rw [if_pos h4]; simp [h4]
    · rw [if_neg h4]
      have q4 : (a.kind == 4) = false := beq_eq_false_iff_ne.2 h4
      rw [q4]
      by_cases hk : a.kind = v.k
      · have e : decide (v.k = a.kind) = true := decide_eq_true hk.symm
        rw [e]
        have e2 : (a.kind == v.k) = true := beq_iff_eq.2 hk
        rw [e2]
        cases rightV v <;> cases decide (v ∈ a.no) <;> simp
      · have e : decide (v.k = a.kind) = false := decide_eq_false (Ne.symm hk)
        have e2 : (a.kind == v.k) = false := beq_eq_false_iff_ne.2 hk
        rw [e, e2]
        cases rightV v <;> simp
theorem has_at (a : Sp) (hc : Canon a) (A : Option Addr) (n c : Nat) (v : Val) (w : World) (hn : a.no.length = n) (hm : n ≤ 100000) (hx : v.t.length ≤ 9223372036854775807) (h1 : -9223372036854775808 ≤ v.i) (h2 : v.i ≤ 9223372036854775807) (hr : RdW w A a.no) (b : Bool) (hb : has a v = b) :
    Calls Try.prog 18 #[spF a.kind a.lo a.hi a.frm a.to_ a.opn A n c, .agg #[.int .i64 v.k, .int .i64 v.i, .string ⟨v.t.toArray⟩]] w fun e w' => e = .returned (.bool b) ∧ Grown w w' := by
  rw [← hb, ← hasF_is hc h1 h2]
  exact hasF_at a.kind a.lo a.hi a.frm a.to_ a.opn A n c a.no v.k v.i v.t w hn hm hx hr
theorem in_meet {a b r : Sp} (ha : Canon a) (hb : Canon b) (h : IsMeet a b r) : decide (r = a) = inn a b := by
  rw [Bool.eq_iff_iff, decide_eq_true_iff, in_iff ha hb]
  constructor
  · intro e v hv
    subst e
    have := h.has v
    rw [hv] at this
    simpa using this.symm
  · intro hs
    refine Spans.one h.1 ha fun v => ?_
    rw [h.has v]
    cases hv : has a v with
    | false => rfl
    | true => rw [hs v hv]; rfl
set_option maxRecDepth 100000 in
set_option maxHeartbeats 4000000 in
theorem in_at (a b : Sp) (ha : Canon a) (hb : Canon b) (A : Option Addr) (n c : Nat) (A' : Option Addr) (n' c' : Nat) (w : World) (hn : a.no.length = n) (hm : n ≤ 1000) (hn' : b.no.length = n') (hm' : n' ≤ 1000) (hr : RdW w A a.no) (hr' : RdW w A' b.no) (q : Bool) (hq : inn a b = q) :
    Calls Try.prog 16 #[spF a.kind a.lo a.hi a.frm a.to_ a.opn A n c, spF b.kind b.lo b.hi b.frm b.to_ b.opn A' n' c'] w fun e w' => e = .returned (.bool q) ∧ Below w.heap.size w w' := by
  have hmt := fun W hrW hrW' => meet_at a b ha hb A n c A' n' c' W hn hm hn' hm' hrW hrW'
  have HQ : Hid (∀ r, IsMeet a b r → decide (r = a) = q) := fun r h => (in_meet ha hb h).trans hq
  obtain ⟨K, lo, hi, f, t, o, es⟩ := a
  obtain ⟨K', lo', hi', f', t', o', fs⟩ := b
  dsimp only at hn hn' hr hr' hmt ⊢
  have HN := Lib.hid hn
  have HN' := Lib.hid hn'
  clear ha hb hq hn hn'
  have hgr := gr2 w (.cells #[.int .i64 K, .int .i64 lo, .int .i64 hi, .string ⟨f.toArray⟩, .string ⟨t.toArray⟩, .bool o, .slice A n c] 29) (.cells #[.int .i64 K', .int .i64 lo', .int .i64 hi', .string ⟨f'.toArray⟩, .string ⟨t'.toArray⟩, .bool o', .slice A' n' c'] 29)
  have HR := Lib.hid (hr.below hgr.below)
  have HR' := Lib.hid (hr'.below hgr.below)
  have hX := (Blk.new w 29 #[.int .i64 K, .int .i64 lo, .int .i64 hi, .string ⟨f.toArray⟩, .string ⟨t.toArray⟩, .bool o, .slice A n c]).alloc (.cells #[.int .i64 K', .int .i64 lo', .int .i64 hi', .string ⟨f'.toArray⟩, .string ⟨t'.toArray⟩, .bool o', .slice A' n' c'] 29)
  have hY := Blk.new (w.alloc (.cells #[.int .i64 K, .int .i64 lo, .int .i64 hi, .string ⟨f.toArray⟩, .string ⟨t.toArray⟩, .bool o, .slice A n c] 29)) 29 #[.int .i64 K', .int .i64 lo', .int .i64 hi', .string ⟨f'.toArray⟩, .string ⟨t'.toArray⟩, .bool o', .slice A' n' c']
  rw [show (w.alloc (.cells #[.int .i64 K, .int .i64 lo, .int .i64 hi, .string ⟨f.toArray⟩, .string ⟨t.toArray⟩, .bool o, .slice A n c] 29)).heap.size = w.heap.size + 1 by simp] at hY
  have HB := Lib.hid hgr.below
  clear hr hr' hgr
  have HMT := Lib.hid hmt
  clear hmt
  go_enter Try.func16, Try.ntmps16
  go_wp2_with fail
  generalize ((w.alloc (.cells #[.int .i64 K, .int .i64 lo, .int .i64 hi, .string ⟨f.toArray⟩, .string ⟨t.toArray⟩, .bool o, .slice A n c] 29)).alloc (.cells #[.int .i64 K', .int .i64 lo', .int .i64 hi', .string ⟨f'.toArray⟩, .string ⟨t'.toArray⟩, .bool o', .slice A' n' c'] 29)) = w0 at *
  have hS0 : Blk w0.drew w.heap.size 29 #[.int .i64 K, .int .i64 lo, .int .i64 hi, .string ⟨f.toArray⟩, .string ⟨t.toArray⟩, .bool o, .slice A n c] ∧ Blk w0.drew (w.heap.size + 1) 29 #[.int .i64 K', .int .i64 lo', .int .i64 hi', .string ⟨f'.toArray⟩, .string ⟨t'.toArray⟩, .bool o', .slice A' n' c'] := ⟨hX, hY⟩
  have hR0 : RdW w0.drew A es := HR.out.below (Below.refl _ _).drew
  have hR0' : RdW w0.drew A' fs := HR'.out.below (Below.refl _ _).drew
  have hB0 : Below w.heap.size w w0.drew := HB.out.drew
  clear hX hY HR HR' HB
  refine wp_region_held_drew (S := fun w' => Blk w' w.heap.size 29 #[.int .i64 K, .int .i64 lo, .int .i64 hi, .string ⟨f.toArray⟩, .string ⟨t.toArray⟩, .bool o, .slice A n c] ∧ Blk w' (w.heap.size + 1) 29 #[.int .i64 K', .int .i64 lo', .int .i64 hi', .string ⟨f'.toArray⟩, .string ⟨t'.toArray⟩, .bool o', .slice A' n' c']) (by kernel_rfl) hS0 (fun _ => ?_)
  refine wpAnyH_yes (i := 0) (d := 5) (v := ?_) rfl rfl (by kernel_rfl) (by kernel_rfl) (by kernel_rfl) (fun _ _ _ h => h) (by rfl) ?_ hS0 ?_
  rotate_left
  · intro w' hSw; obtain ⟨h7, h8⟩ := hSw; obtain ⟨s0, s1, s2, s3, s4, s5, s6, _⟩ := blk7 h7; obtain ⟨r0, r1, r2, r3, r4, r5, r6, _⟩ := blk7 h8; go_simp <;> with_reducible rfl
  simp only [Act.put, List.setIfInBounds_toArray, List.set_cons_zero, List.set_cons_succ]
  refine wpAnyH_yes (i := 1) (d := 6) (v := ?_) rfl rfl (by kernel_rfl) (by kernel_rfl) (by kernel_rfl) (fun _ _ _ h => h) (by rfl) ?_ hS0 ?_
  rotate_left
  · intro w' hSw; obtain ⟨h7, h8⟩ := hSw; obtain ⟨s0, s1, s2, s3, s4, s5, s6, _⟩ := blk7 h7; obtain ⟨r0, r1, r2, r3, r4, r5, r6, _⟩ := blk7 h8; go_simp <;> with_reducible rfl
  simp only [Act.put, List.setIfInBounds_toArray, List.set_cons_zero, List.set_cons_succ]
  refine wpAnyH_yes (i := 3) (d := 8) (v := ?_) rfl rfl (by kernel_rfl) (by kernel_rfl) (by kernel_rfl) (fun _ _ _ h => h) (by rfl) ?_ hS0 ?_
  rotate_left
  · intro w' hSw; obtain ⟨h7, h8⟩ := hSw; obtain ⟨s0, s1, s2, s3, s4, s5, s6, _⟩ := blk7 h7; obtain ⟨r0, r1, r2, r3, r4, r5, r6, _⟩ := blk7 h8; go_simp <;> with_reducible rfl
  simp only [Act.put, List.setIfInBounds_toArray, List.set_cons_zero, List.set_cons_succ]
  generalize w0.drew = w1 at *
  refine wpAnyH_one (i := 2) (by kernel_rfl) rfl (by rfl) (fun Ka hKa => ?_)
  go_simp
  with_reducible refine (HMT.out w1 hR0 hR0').mono ?_
  rintro e w2 ⟨⟨rK, rlo, rhi, rf, rt, ro, rno⟩, him, hrl, A7, n7, c7, rfl, hl7, hc7, ho7, hb7⟩
  dsimp only at hrl hl7 ho7
  have HIM := Lib.hid him
  have hS1 : Blk w2 w.heap.size 29 #[.int .i64 K, .int .i64 lo, .int .i64 hi, .string ⟨f.toArray⟩, .string ⟨t.toArray⟩, .bool o, .slice A n c] ∧ Blk w2 (w.heap.size + 1) 29 #[.int .i64 K', .int .i64 lo', .int .i64 hi', .string ⟨f'.toArray⟩, .string ⟨t'.toArray⟩, .bool o', .slice A' n' c'] := ⟨Blk.below hS0.1 hb7 hS0.1.lt, Blk.below hS0.2 hb7 hS0.2.lt⟩
  have hR2 := hR0.below hb7
  have hB2 := below_next hB0 (Nat.le_refl _) hb7
  have hR7 := Gives.rd ho7
  have hn7 : n7 ≤ 100000 := by have := HN.out; have := HN'.out; omega
  go_wp2_with fail
  refine hKa.out _ _ hS1 ?_
  clear hKa Ka
  refine wpAnyH_one (i := 4) (by kernel_rfl) rfl (by rfl) (fun Ka hKa => ?_)
  go_simp
  with_reducible refine (spSame_at rK rlo rhi rf rt ro A7 n7 c7 K lo hi f t o A n c w2 rno es hl7 hn7 HN.out (by omega) hR7 hR2).mono ?_
  rintro e w3 ⟨rfl, hg3⟩
  rw [HQ.out _ HIM.out]
  have hS2 : Blk w3 w.heap.size 29 #[.int .i64 K, .int .i64 lo, .int .i64 hi, .string ⟨f.toArray⟩, .string ⟨t.toArray⟩, .bool o, .slice A n c] ∧ Blk w3 (w.heap.size + 1) 29 #[.int .i64 K', .int .i64 lo', .int .i64 hi', .string ⟨f'.toArray⟩, .string ⟨t'.toArray⟩, .bool o', .slice A' n' c'] := ⟨Blk.below hS1.1 hg3.below hS1.1.lt, Blk.below hS1.2 hg3.below hS1.2.lt⟩
  have hB3 := below_next hB2 (Nat.le_refl _) hg3.below
  go_wp2_with fail
  refine hKa.out _ _ hS2 ?_
  clear hKa Ka
  refine wpAnyH_yes (i := 5) (d := 4) (v := ?_) rfl rfl (by kernel_rfl) (by kernel_rfl) (by kernel_rfl) (fun _ _ _ h => h) (by rfl) ?_ hS2 ?_
  rotate_left
  · intro w' hSw; go_simp <;> with_reducible rfl
  simp only [Act.put, List.setIfInBounds_toArray, List.set_cons_zero, List.set_cons_succ]
  refine wpAnyH_done (by kernel_rfl) ?_ _
  go_wp2_with fail
  go_ret
  exact ⟨rfl, hB3⟩
/-- Are predicates few, and short? -/
def fewP (l : List Pr) : Bool := decide (∀ p ∈ l, p.n.length ≤ 100 ∧ p.t.length ≤ 100) && decide (l.length ≤ 24)
set_option maxRecDepth 100000 in
set_option maxHeartbeats 2000000 in
theorem few_at (A : Option Addr) (l : List Pr) (n c : Nat) (hn : l.length = n) (hm : n ≤ 9223372036854775807) (hl : ∀ p ∈ l, p.n.length ≤ 9223372036854775807 ∧ p.t.length ≤ 9223372036854775807) (w : World) (hr : RdQ w A l) (b : Bool) (hb : fewP l = b) :
    Calls Try.prog 10 #[.slice A n c] w fun e w' => e = .returned (.bool b) ∧ w' = w := by
  subst hb
  have HN := Lib.hid hn
  have HLL := Lib.hid hl
  clear hn hl
  go_enter Try.func10, Try.ntmps10
  go_wp2_with fail
  go_loopg [3] n (fun gg s3 wr => w = wr ∧ ∃ k : Nat, k ≤ n ∧ n - k ≤ gg ∧ s3 = .int .i64 (k : Int) ∧ Hid (∀ p ∈ l.take k, p.n.length ≤ 100 ∧ p.t.length ≤ 100))
  case atStart => exact ⟨rfl, 0, Nat.zero_le _, by omega, rfl, by show ∀ _, _; simp⟩
  case round =>
    obtain ⟨rfl, k, hk, hgg, rfl, HA⟩ := hrel
    by_cases hlt : k < n
    · have hk' : k < l.length := by rw [HN.out]; exact hlt
      obtain ⟨g, off, rfl, hg, c0, c1, c2, c3, c4⟩ := RdQ.at5 hr hk'
      have hpl := HLL.out _ (List.getElem_mem hk')
      obtain ⟨x, hx⟩ : ∃ x, l[k] = x := ⟨_, rfl⟩
      have HX := Lib.hid hx
      rw [hx] at c0 c1 c2 c3 c4 hpl
      clear hx
      obtain ⟨xn, xo, xk, xi, xt⟩ := x
      obtain ⟨hp1, hp2⟩ := hpl
      dsimp only at hp1 hp2
      have w5 : (k : Int) < (n : Int) := by omega
      by_cases hs : xn.length ≤ 100 ∧ xt.length ≤ 100
      · obtain ⟨hs1, hs2⟩ := hs
        have HQ : Hid (∀ p ∈ l.take (k + 1), p.n.length ≤ 100 ∧ p.t.length ≤ 100) := by
          show ∀ p ∈ l.take (k + 1), _
          rw [List.take_succ_eq_append_getElem hk', HX.out]
          intro v hv
          rcases List.mem_append.1 hv with hv | hv
          · exact HA.out v hv
          · simp at hv; subst hv; exact ⟨hs1, hs2⟩
        have v1 : ¬ (100 : Int) < (xn.length : Int) := by omega
        have v2 : ¬ (100 : Int) < (xt.length : Int) := by omega
        go_wp2_with fail
        go_roundg (n - (k + 1))
        case measure => omega
        case rel => exact ⟨rfl, k + 1, by omega, Nat.le_refl _, by go_num, HQ⟩
      · have HQ : Hid (fewP l = false) := by
          show fewP l = false
          unfold fewP
          rw [decide_eq_false (fun h => hs (by have := h _ (List.getElem_mem hk'); rw [HX.out] at this; exact this))]
          rfl
        by_cases h1 : xn.length ≤ 100
        · have h2 : ¬ xt.length ≤ 100 := fun h => hs ⟨h1, h⟩
          have v1 : ¬ (100 : Int) < (xn.length : Int) := by omega
          have v2 : (100 : Int) < (xt.length : Int) := by omega
          clear hs
          go_wp2_with fail
          go_ret
          exact ⟨ret_b HQ.out.symm, rfl⟩
        · have v1 : (100 : Int) < (xn.length : Int) := by omega
          clear hs
          go_wp2_with fail
          go_ret
          exact ⟨ret_b HQ.out.symm, rfl⟩
    · have hkn : Hid (k = n) := by show k = n; omega
      go_wp2_with fail
      go_ret
      refine ⟨ret_b ?_, rfl⟩
      have h := HA.out
      rw [hkn.out, List.take_of_length_le (by rw [HN.out]; exact Nat.le_refl _)] at h
      unfold fewP
      rw [decide_eq_true h, HN.out]
      simp
      omega
/-- What Fold tells. -/
def Folds (w : World) (l : List Pr) (e : Ending) (w' : World) : Prop := ∃ r, IsAll l r ∧ r.no.length ≤ l.length ∧ Gives w r e w'
theorem own_far7 {w : World} {base : Nat} {A : Option Addr} {n c : Nat} {l : List Val} {b : Nat} (h : OwnW w base (.slice A n c) l) (hb : ∀ a, A = some a → a.block ≠ b) (u0 u1 u2 u3 u4 u5 u6 : Value) :
    OwnW (((((((w.setCell ⟨b, 0, none⟩ u0).setCell ⟨b, 1, none⟩ u1).setCell ⟨b, 2, none⟩ u2).setCell ⟨b, 3, none⟩ u3).setCell ⟨b, 4, none⟩ u4).setCell ⟨b, 5, none⟩ u5).setCell ⟨b, 6, none⟩ u6) base (.slice A n c) l :=
  own_far (own_far (own_far (own_far (own_far (own_far (own_far h hb) hb) hb) hb) hb) hb) hb
set_option maxRecDepth 100000 in
set_option maxHeartbeats 4000000 in
theorem fold_at (A : Option Addr) (l : List Pr) (n c : Nat) (hn : l.length = n) (hm : n ≤ 100) (hl : ∀ p ∈ l, p.n.length ≤ 100 ∧ p.t.length ≤ 100 ∧ -9223372036854775808 ≤ p.i ∧ p.i ≤ 9223372036854775807) (w : World) (hr : RdQ w A l) :
    Calls Try.prog 11 #[.slice A n c] w (Folds w l) := by
  have HN := Lib.hid hn
  have HLL := Lib.hid hl
  have HR := Lib.hid hr
  clear hn hl hr
  have hY0 := Blk.new w 29 #[.int .i64 0, .int .i64 0, .int .i64 0, .string ⟨#[]⟩, .string ⟨#[]⟩, .bool false, .slice none 0 0]
  have hg0 := gr1 w (.cells #[.int .i64 0, .int .i64 0, .int .i64 0, .string ⟨#[]⟩, .string ⟨#[]⟩, .bool false, .slice none 0 0] 29)
  go_enter Try.func11, Try.ntmps11
  go_wp2_with fail
  generalize w.alloc (.cells #[.int .i64 0, .int .i64 0, .int .i64 0, .string ⟨#[]⟩, .string ⟨#[]⟩, .bool false, .slice none 0 0] 29) = w0 at *
  refine (all_at w0).mono ?_
  rintro e w1 ⟨rfl, hg1⟩
  have hY1 := Blk.below hY0 hg1.below hY0.lt
  have hB1 := (hg0.trans hg1).below
  have hb2 : Below w1.heap.size w1 (w1.alloc (.cells #[.int .i64 4, .int .i64 0, .int .i64 0, .string ⟨#[]⟩, .string ⟨#[]⟩, .bool false, .slice none 0 0] 29)) := (Below.refl _ _).alloc (Nat.le_refl _) _
  have hV2 : Blk (w1.alloc (.cells #[.int .i64 4, .int .i64 0, .int .i64 0, .string ⟨#[]⟩, .string ⟨#[]⟩, .bool false, .slice none 0 0] 29)) w1.heap.size 29 #[.int .i64 4, .int .i64 0, .int .i64 0, .string ⟨#[]⟩, .string ⟨#[]⟩, .bool false, .slice none 0 0] := Blk.new _ _ _
  have HY2 := Lib.hid (Blk.below hY1 hb2 hY1.lt)
  have HB2 := Lib.hid (below_next hB1 (Nat.le_refl _) hb2)
  have HV2 := Lib.hid hV2
  have hVl : w.heap.size < w1.heap.size := hY1.lt
  clear hY0 hg0 hg1 hY1 hB1 hb2 hV2
  go_wp2_with fail
  generalize w1.alloc (.cells #[.int .i64 4, .int .i64 0, .int .i64 0, .string ⟨#[]⟩, .string ⟨#[]⟩, .bool false, .slice none 0 0] 29) = w2 at *
  generalize w1.heap.size = V at *
  go_loopg [4] n (fun gg s4 wr => ∃ (k : Nat) (K lo hi : Int) (f t : List UInt8) (o : Bool) (es : List Val) (B : Option Addr) (m d : Nat), k ≤ n ∧ n - k ≤ gg ∧ s4 = .int .i64 (k : Int) ∧ m ≤ k ∧ m ≤ d ∧ Hid (es.length = m) ∧ Hid (IsAll (l.take k) ⟨K, lo, hi, f, t, o, es⟩) ∧ Hid (Blk wr V 29 #[.int .i64 K, .int .i64 lo, .int .i64 hi, .string ⟨f.toArray⟩, .string ⟨t.toArray⟩, .bool o, .slice B m d]) ∧ Hid (Blk wr w.heap.size 29 #[.int .i64 0, .int .i64 0, .int .i64 0, .string ⟨#[]⟩, .string ⟨#[]⟩, .bool false, .slice none 0 0]) ∧ Hid (OwnW wr w.heap.size (.slice B m d) es) ∧ Hid (∀ a, B = some a → a.block ≠ V) ∧ Hid (∀ a, B = some a → w.heap.size < a.block) ∧ Hid (Below w.heap.size w wr))
  case atStart => exact ⟨0, 4, 0, 0, [], [], false, [], none, 0, 0, Nat.zero_le _, by omega, rfl, Nat.le_refl _, Nat.le_refl _, rfl, by show IsAll _ _; exact all_nil, HV2, HY2, OwnK.none_ _ _, fun a ha => by simp at ha, fun a ha => by simp at ha, HB2⟩
  case round =>
    obtain ⟨k, K, lo, hi, f, t, o, es, B, m, d, hk, hgg, rfl, hmk, hmd, HM, HI, HV, HY, HO, HBV, HBG, HB⟩ := hrel
    clear HV2 HY2 HB2
    obtain ⟨z0, z1, z2, z3, z4, z5, z6, y0, y1, y2, y3, y4, y5, y6⟩ := blk7 HV.out
    have hlV := HV.out.lt
    by_cases hlt : k < n
    · have hk' : k < l.length := by rw [HN.out]; exact hlt
      have hpl := HLL.out _ (List.getElem_mem hk')
      obtain ⟨g, off, rfl, hg, c0, c1, c2, c3, c4⟩ := RdQ.at5 HR.out hk'
      obtain ⟨x, hx⟩ : ∃ x, l[k] = x := ⟨_, rfl⟩
      have HX := Lib.hid hx
      rw [hx] at c0 c1 c2 c3 c4 hpl
      clear hx
      obtain ⟨xn, xo, xk, xi, xt⟩ := x
      obtain ⟨hp1, hp2, hp3, hp4⟩ := hpl
      dsimp only at hp1 hp2 hp3 hp4
      have hkeep : ∀ w', Below w.heap.size w w' → w'.cell? ⟨g, off + k * 5, none⟩ = some (.string ⟨xn.toArray⟩) ∧ w'.cell? ⟨g, off + k * 5 + 1, none⟩ = some (.int .i64 xo) ∧ w'.cell? ⟨g, off + k * 5 + 2, none⟩ = some (.int .i64 xk) ∧ w'.cell? ⟨g, off + k * 5 + 3, none⟩ = some (.int .i64 xi) ∧ w'.cell? ⟨g, off + k * 5 + 4, none⟩ = some (.string ⟨xt.toArray⟩) := fun w' hb => ⟨(hb.cell (p := ⟨g, off + k * 5, none⟩) hg).trans c0, (hb.cell (p := ⟨g, off + k * 5 + 1, none⟩) hg).trans c1, (hb.cell (p := ⟨g, off + k * 5 + 2, none⟩) hg).trans c2, (hb.cell (p := ⟨g, off + k * 5 + 3, none⟩) hg).trans c3, (hb.cell (p := ⟨g, off + k * 5 + 4, none⟩) hg).trans c4⟩
      have HK := Lib.hid hkeep
      clear hkeep c0 c1 c2 c3 c4
      have w5 : (k : Int) < (n : Int) := by omega
      have hS0 := HK.out wr.drew HB.out.drew
      go_wp2_with fail
      refine wp_region_held_drew (S := fun w' => w'.cell? ⟨g, off + k * 5, none⟩ = some (.string ⟨xn.toArray⟩) ∧ w'.cell? ⟨g, off + k * 5 + 1, none⟩ = some (.int .i64 xo) ∧ w'.cell? ⟨g, off + k * 5 + 2, none⟩ = some (.int .i64 xk) ∧ w'.cell? ⟨g, off + k * 5 + 3, none⟩ = some (.int .i64 xi) ∧ w'.cell? ⟨g, off + k * 5 + 4, none⟩ = some (.string ⟨xt.toArray⟩)) (by kernel_rfl) hS0 (fun _ => ?_)
      refine wpAnyH_yes (i := 1) (d := 13) (v := ?_) rfl rfl (by kernel_rfl) (by kernel_rfl) (by kernel_rfl) (fun _ _ _ h => h) (by rfl) ?_ hS0 ?_
      rotate_left
      · intro w' hSw; obtain ⟨s0, s1, s2, s3, s4⟩ := hSw; go_simp <;> with_reducible rfl
      simp only [Act.put, List.setIfInBounds_toArray, List.set_cons_zero, List.set_cons_succ]
      refine wpAnyH_yes (i := 2) (d := 14) (v := ?_) rfl rfl (by kernel_rfl) (by kernel_rfl) (by kernel_rfl) (fun _ _ _ h => h) (by rfl) ?_ hS0 ?_
      rotate_left
      · intro w' hSw; obtain ⟨s0, s1, s2, s3, s4⟩ := hSw; go_simp <;> with_reducible rfl
      simp only [Act.put, List.setIfInBounds_toArray, List.set_cons_zero, List.set_cons_succ]
      refine wpAnyH_yes (i := 3) (d := 15) (v := ?_) rfl rfl (by kernel_rfl) (by kernel_rfl) (by kernel_rfl) (fun _ _ _ h => h) (by rfl) ?_ hS0 ?_
      rotate_left
      · intro w' hSw; obtain ⟨s0, s1, s2, s3, s4⟩ := hSw; go_simp <;> with_reducible rfl
      simp only [Act.put, List.setIfInBounds_toArray, List.set_cons_zero, List.set_cons_succ]
      refine wpAnyH_pair (i := 0) (j := 4) (by kernel_rfl) rfl rfl (by rfl) (by rfl) (fun Ka hKa => ?_) (fun Ka hKa => ?_)
      · go_simp
        refine hKa.out _ _ hS0 ?_
        clear hKa Ka
        refine wpAnyH_yes (i := 4) (d := 16) (v := ?_) rfl rfl (by kernel_rfl) (by kernel_rfl) (by kernel_rfl) (fun _ _ _ h => h) (by rfl) ?_ hS0 ?_
        rotate_left
        · intro w' hSw; obtain ⟨s0, s1, s2, s3, s4⟩ := hSw; go_simp <;> with_reducible rfl
        simp only [Act.put, List.setIfInBounds_toArray, List.set_cons_zero, List.set_cons_succ]
        clear z0 z1 z2 z3 z4 z5 z6 y0 y1 y2 y3 y4 y5 y6 hlV
        have hV3 : Blk wr.drew V 29 #[.int .i64 K, .int .i64 lo, .int .i64 hi, .string ⟨f.toArray⟩, .string ⟨t.toArray⟩, .bool o, .slice B m d] := HV.out
        have hY3 : Blk wr.drew w.heap.size 29 #[.int .i64 0, .int .i64 0, .int .i64 0, .string ⟨#[]⟩, .string ⟨#[]⟩, .bool false, .slice none 0 0] := HY.out
        have hO3 : OwnW wr.drew w.heap.size (.slice B m d) es := OwnK.below HO.out (Below.refl _ _).drew
        have hB3 := HB.out.drew
        clear HV HY HO HB
        generalize wr.drew = w4 at *
        refine wpAnyH_one (i := 5) (by kernel_rfl) rfl (by rfl) (fun Ka hKa => ?_)
        go_simp
        with_reducible refine (of_at ⟨xn, xo, xk, xi, xt⟩ w4 (by show xn.length ≤ _; omega) (by show xt.length ≤ _; omega) hp3 hp4).mono ?_
        rintro e w5 ⟨⟨uK, ulo, uhi, uf, ut, uo, uno⟩, hof, hul, A5, n5, c5, rfl, hl5, hc5, ho5, hb5⟩
        dsimp only at hul hl5 ho5
        have hB5 := below_next hB3 (by have := hB3.size; omega) hb5
        have hS1 := HK.out w5 hB5
        have hV5 := Blk.below hV3 hb5 hV3.lt
        have hY5 := Blk.below hY3 hb5 hY3.lt
        have hO5 := OwnK.below hO3 hb5
        go_wp2_with fail
        refine hKa.out _ _ hS1 ?_
        clear hKa Ka hV3 hY3 hO3 hB3 hb5
        refine wpAnyH_one (i := 6) (by kernel_rfl) rfl (by rfl) (fun Ka hKa => ?_)
        go_simp
        have hcA : Canon ⟨K, lo, hi, f, t, o, es⟩ := HI.out.1
        have hcB : Canon ⟨uK, ulo, uhi, uf, ut, uo, uno⟩ := hof.1
        have hrA := Gives.rd hO5
        have hrB := Gives.rd ho5
        with_reducible refine (meet_at ⟨K, lo, hi, f, t, o, es⟩ ⟨uK, ulo, uhi, uf, ut, uo, uno⟩ hcA hcB B m d A5 n5 c5 w5 HM.out (by omega) hl5 (by omega) hrA hrB).mono ?_
        rintro e w6 ⟨⟨rK, rlo, rhi, rf, rt, ro, rno⟩, him, hrl, A7, n7, c7, rfl, hl7, hc7, ho7, hb7⟩
        dsimp only at hrl hl7 ho7
        have hB6 := below_next hB5 (Nat.le_refl _) hb7
        have hS2 := HK.out w6 hB6
        have hV6 := Blk.below hV5 hb7 hV5.lt
        have hY6 := Blk.below hY5 hb7 hY5.lt
        have hA7 := fun a ha => (own_addr ho7 a ha).1
        have hV5l := hV5.lt
        have hY5l := hY5.lt
        go_wp2_with fail
        refine hKa.out _ _ hS2 ?_
        clear hKa Ka hV5 hY5 hO5 hB5
        refine wpAnyH_one (i := 7) (by kernel_rfl) rfl (by rfl) (fun Ka hKa => ?_)
        obtain ⟨z0, z1, z2, z3, z4, z5, z6, y0, y1, y2, y3, y4, y5, y6⟩ := blk7 hV6
        have hlV := hV6.lt
        go_simp
        have HV7 : Hid (Blk (((((((w6.setCell ⟨V, 0, none⟩ (.int .i64 rK)).setCell ⟨V, 1, none⟩ (.int .i64 rlo)).setCell ⟨V, 2, none⟩ (.int .i64 rhi)).setCell ⟨V, 3, none⟩ (.string ⟨rf.toArray⟩)).setCell ⟨V, 4, none⟩ (.string ⟨rt.toArray⟩)).setCell ⟨V, 5, none⟩ (.bool ro)).setCell ⟨V, 6, none⟩ (.slice A7 n7 c7)) V 29 #[.int .i64 rK, .int .i64 rlo, .int .i64 rhi, .string ⟨rf.toArray⟩, .string ⟨rt.toArray⟩, .bool ro, .slice A7 n7 c7]) := Blk.put7 hV6 _ _ _ _ _ _ _
        have HY7 : Hid (Blk (((((((w6.setCell ⟨V, 0, none⟩ (.int .i64 rK)).setCell ⟨V, 1, none⟩ (.int .i64 rlo)).setCell ⟨V, 2, none⟩ (.int .i64 rhi)).setCell ⟨V, 3, none⟩ (.string ⟨rf.toArray⟩)).setCell ⟨V, 4, none⟩ (.string ⟨rt.toArray⟩)).setCell ⟨V, 5, none⟩ (.bool ro)).setCell ⟨V, 6, none⟩ (.slice A7 n7 c7)) w.heap.size 29 #[.int .i64 0, .int .i64 0, .int .i64 0, .string ⟨#[]⟩, .string ⟨#[]⟩, .bool false, .slice none 0 0]) := Blk.far7 hY6 (by omega) _ _ _ _ _ _ _
        have hBV7 : ∀ a, A7 = some a → a.block ≠ V := fun a ha => by have := hA7 a ha; omega
        have HO7 : Hid (OwnW (((((((w6.setCell ⟨V, 0, none⟩ (.int .i64 rK)).setCell ⟨V, 1, none⟩ (.int .i64 rlo)).setCell ⟨V, 2, none⟩ (.int .i64 rhi)).setCell ⟨V, 3, none⟩ (.string ⟨rf.toArray⟩)).setCell ⟨V, 4, none⟩ (.string ⟨rt.toArray⟩)).setCell ⟨V, 5, none⟩ (.bool ro)).setCell ⟨V, 6, none⟩ (.slice A7 n7 c7)) w.heap.size (.slice A7 n7 c7) rno) := own_far7 (ho7.less (by omega)) hBV7 _ _ _ _ _ _ _
        have hB7 : Below w.heap.size w (((((((w6.setCell ⟨V, 0, none⟩ (.int .i64 rK)).setCell ⟨V, 1, none⟩ (.int .i64 rlo)).setCell ⟨V, 2, none⟩ (.int .i64 rhi)).setCell ⟨V, 3, none⟩ (.string ⟨rf.toArray⟩)).setCell ⟨V, 4, none⟩ (.string ⟨rt.toArray⟩)).setCell ⟨V, 5, none⟩ (.bool ro)).setCell ⟨V, 6, none⟩ (.slice A7 n7 c7)) := below_put7 hB6 (by omega) _ _ _ _ _ _ _
        have hS3 := HK.out (((((((w6.setCell ⟨V, 0, none⟩ (.int .i64 rK)).setCell ⟨V, 1, none⟩ (.int .i64 rlo)).setCell ⟨V, 2, none⟩ (.int .i64 rhi)).setCell ⟨V, 3, none⟩ (.string ⟨rf.toArray⟩)).setCell ⟨V, 4, none⟩ (.string ⟨rt.toArray⟩)).setCell ⟨V, 5, none⟩ (.bool ro)).setCell ⟨V, 6, none⟩ (.slice A7 n7 c7)) hB7
        have HB7 := Lib.hid hB7
        have HBG7 : Hid (∀ a, A7 = some a → w.heap.size < a.block) := fun a ha => by have := hA7 a ha; omega
        have HBV7 := Lib.hid hBV7
        have HI7 : Hid (IsAll (l.take (k + 1)) ⟨rK, rlo, rhi, rf, rt, ro, rno⟩) := by
          show IsAll _ _
          rw [List.take_succ_eq_append_getElem hk', HX.out]
          exact all_snoc HI.out hof him
        have HM7 := Lib.hid hl7
        have hnk : n7 ≤ k + 1 := by have := HM.out; omega
        refine hKa.out _ _ hS3 ?_
        clear hKa Ka z0 z1 z2 z3 z4 z5 z6 y0 y1 y2 y3 y4 y5 y6 hlV hV6 hY6 ho7 hB7 hBV7 hS0 hS1 hS2 hS3 hA7 hl7 hof him ho5 hl5
        refine wpAnyH_done (by kernel_rfl) ?_ _
        generalize (((((((w6.setCell ⟨V, 0, none⟩ (.int .i64 rK)).setCell ⟨V, 1, none⟩ (.int .i64 rlo)).setCell ⟨V, 2, none⟩ (.int .i64 rhi)).setCell ⟨V, 3, none⟩ (.string ⟨rf.toArray⟩)).setCell ⟨V, 4, none⟩ (.string ⟨rt.toArray⟩)).setCell ⟨V, 5, none⟩ (.bool ro)).setCell ⟨V, 6, none⟩ (.slice A7 n7 c7)) = w7 at *
        go_wp2_with fail
        go_roundg (n - (k + 1))
        case measure => omega
        case rel => exact ⟨k + 1, rK, rlo, rhi, rf, rt, ro, rno, A7, n7, c7, by omega, Nat.le_refl _, by go_num, hnk, hc7, HM7, HI7, HV7, HY7, HO7, HBV7, HBG7, HB7⟩
      · have hS0' := hS0
        obtain ⟨s0, s1, s2, s3, s4⟩ := hS0'
        go_simp
        refine hKa.out _ _ hS0 ?_
        clear hKa Ka s0 s1 s2 s3 s4
        refine wpAnyH_pair (i := 0) (j := 5) (by kernel_rfl) rfl rfl (by rfl) (by rfl) (fun Ka hKa => ?_) (fun Ka hKa => ?_)
        · go_simp
          refine hKa.out _ _ hS0 ?_
          clear hKa Ka
          clear z0 z1 z2 z3 z4 z5 z6 y0 y1 y2 y3 y4 y5 y6 hlV
          have hV3 : Blk wr.drew V 29 #[.int .i64 K, .int .i64 lo, .int .i64 hi, .string ⟨f.toArray⟩, .string ⟨t.toArray⟩, .bool o, .slice B m d] := HV.out
          have hY3 : Blk wr.drew w.heap.size 29 #[.int .i64 0, .int .i64 0, .int .i64 0, .string ⟨#[]⟩, .string ⟨#[]⟩, .bool false, .slice none 0 0] := HY.out
          have hO3 : OwnW wr.drew w.heap.size (.slice B m d) es := OwnK.below HO.out (Below.refl _ _).drew
          have hB3 := HB.out.drew
          clear HV HY HO HB
          generalize wr.drew = w4 at *
          refine wpAnyH_one (i := 5) (by kernel_rfl) rfl (by rfl) (fun Ka hKa => ?_)
          go_simp
          with_reducible refine (of_at ⟨xn, xo, xk, xi, xt⟩ w4 (by show xn.length ≤ _; omega) (by show xt.length ≤ _; omega) hp3 hp4).mono ?_
          rintro e w5 ⟨⟨uK, ulo, uhi, uf, ut, uo, uno⟩, hof, hul, A5, n5, c5, rfl, hl5, hc5, ho5, hb5⟩
          dsimp only at hul hl5 ho5
          have hB5 := below_next hB3 (by have := hB3.size; omega) hb5
          have hS1 := HK.out w5 hB5
          have hV5 := Blk.below hV3 hb5 hV3.lt
          have hY5 := Blk.below hY3 hb5 hY3.lt
          have hO5 := OwnK.below hO3 hb5
          go_wp2_with fail
          refine hKa.out _ _ hS1 ?_
          clear hKa Ka hV3 hY3 hO3 hB3 hb5
          refine wpAnyH_one (i := 6) (by kernel_rfl) rfl (by rfl) (fun Ka hKa => ?_)
          go_simp
          have hcA : Canon ⟨K, lo, hi, f, t, o, es⟩ := HI.out.1
          have hcB : Canon ⟨uK, ulo, uhi, uf, ut, uo, uno⟩ := hof.1
          have hrA := Gives.rd hO5
          have hrB := Gives.rd ho5
          with_reducible refine (meet_at ⟨K, lo, hi, f, t, o, es⟩ ⟨uK, ulo, uhi, uf, ut, uo, uno⟩ hcA hcB B m d A5 n5 c5 w5 HM.out (by omega) hl5 (by omega) hrA hrB).mono ?_
          rintro e w6 ⟨⟨rK, rlo, rhi, rf, rt, ro, rno⟩, him, hrl, A7, n7, c7, rfl, hl7, hc7, ho7, hb7⟩
          dsimp only at hrl hl7 ho7
          have hB6 := below_next hB5 (Nat.le_refl _) hb7
          have hS2 := HK.out w6 hB6
          have hV6 := Blk.below hV5 hb7 hV5.lt
          have hY6 := Blk.below hY5 hb7 hY5.lt
          have hA7 := fun a ha => (own_addr ho7 a ha).1
          have hV5l := hV5.lt
          have hY5l := hY5.lt
          go_wp2_with fail
          refine hKa.out _ _ hS2 ?_
          clear hKa Ka hV5 hY5 hO5 hB5
          refine wpAnyH_one (i := 7) (by kernel_rfl) rfl (by rfl) (fun Ka hKa => ?_)
          obtain ⟨z0, z1, z2, z3, z4, z5, z6, y0, y1, y2, y3, y4, y5, y6⟩ := blk7 hV6
          have hlV := hV6.lt
          go_simp
          have HV7 : Hid (Blk (((((((w6.setCell ⟨V, 0, none⟩ (.int .i64 rK)).setCell ⟨V, 1, none⟩ (.int .i64 rlo)).setCell ⟨V, 2, none⟩ (.int .i64 rhi)).setCell ⟨V, 3, none⟩ (.string ⟨rf.toArray⟩)).setCell ⟨V, 4, none⟩ (.string ⟨rt.toArray⟩)).setCell ⟨V, 5, none⟩ (.bool ro)).setCell ⟨V, 6, none⟩ (.slice A7 n7 c7)) V 29 #[.int .i64 rK, .int .i64 rlo, .int .i64 rhi, .string ⟨rf.toArray⟩, .string ⟨rt.toArray⟩, .bool ro, .slice A7 n7 c7]) := Blk.put7 hV6 _ _ _ _ _ _ _
          have HY7 : Hid (Blk (((((((w6.setCell ⟨V, 0, none⟩ (.int .i64 rK)).setCell ⟨V, 1, none⟩ (.int .i64 rlo)).setCell ⟨V, 2, none⟩ (.int .i64 rhi)).setCell ⟨V, 3, none⟩ (.string ⟨rf.toArray⟩)).setCell ⟨V, 4, none⟩ (.string ⟨rt.toArray⟩)).setCell ⟨V, 5, none⟩ (.bool ro)).setCell ⟨V, 6, none⟩ (.slice A7 n7 c7)) w.heap.size 29 #[.int .i64 0, .int .i64 0, .int .i64 0, .string ⟨#[]⟩, .string ⟨#[]⟩, .bool false, .slice none 0 0]) := Blk.far7 hY6 (by omega) _ _ _ _ _ _ _
          have hBV7 : ∀ a, A7 = some a → a.block ≠ V := fun a ha => by have := hA7 a ha; omega
          have HO7 : Hid (OwnW (((((((w6.setCell ⟨V, 0, none⟩ (.int .i64 rK)).setCell ⟨V, 1, none⟩ (.int .i64 rlo)).setCell ⟨V, 2, none⟩ (.int .i64 rhi)).setCell ⟨V, 3, none⟩ (.string ⟨rf.toArray⟩)).setCell ⟨V, 4, none⟩ (.string ⟨rt.toArray⟩)).setCell ⟨V, 5, none⟩ (.bool ro)).setCell ⟨V, 6, none⟩ (.slice A7 n7 c7)) w.heap.size (.slice A7 n7 c7) rno) := own_far7 (ho7.less (by omega)) hBV7 _ _ _ _ _ _ _
          have hB7 : Below w.heap.size w (((((((w6.setCell ⟨V, 0, none⟩ (.int .i64 rK)).setCell ⟨V, 1, none⟩ (.int .i64 rlo)).setCell ⟨V, 2, none⟩ (.int .i64 rhi)).setCell ⟨V, 3, none⟩ (.string ⟨rf.toArray⟩)).setCell ⟨V, 4, none⟩ (.string ⟨rt.toArray⟩)).setCell ⟨V, 5, none⟩ (.bool ro)).setCell ⟨V, 6, none⟩ (.slice A7 n7 c7)) := below_put7 hB6 (by omega) _ _ _ _ _ _ _
          have hS3 := HK.out (((((((w6.setCell ⟨V, 0, none⟩ (.int .i64 rK)).setCell ⟨V, 1, none⟩ (.int .i64 rlo)).setCell ⟨V, 2, none⟩ (.int .i64 rhi)).setCell ⟨V, 3, none⟩ (.string ⟨rf.toArray⟩)).setCell ⟨V, 4, none⟩ (.string ⟨rt.toArray⟩)).setCell ⟨V, 5, none⟩ (.bool ro)).setCell ⟨V, 6, none⟩ (.slice A7 n7 c7)) hB7
          have HB7 := Lib.hid hB7
          have HBG7 : Hid (∀ a, A7 = some a → w.heap.size < a.block) := fun a ha => by have := hA7 a ha; omega
          have HBV7 := Lib.hid hBV7
          have HI7 : Hid (IsAll (l.take (k + 1)) ⟨rK, rlo, rhi, rf, rt, ro, rno⟩) := by
            show IsAll _ _
            rw [List.take_succ_eq_append_getElem hk', HX.out]
            exact all_snoc HI.out hof him
          have HM7 := Lib.hid hl7
          have hnk : n7 ≤ k + 1 := by have := HM.out; omega
          refine hKa.out _ _ hS3 ?_
          clear hKa Ka z0 z1 z2 z3 z4 z5 z6 y0 y1 y2 y3 y4 y5 y6 hlV hV6 hY6 ho7 hB7 hBV7 hS0 hS1 hS2 hS3 hA7 hl7 hof him ho5 hl5
          refine wpAnyH_done (by kernel_rfl) ?_ _
          generalize (((((((w6.setCell ⟨V, 0, none⟩ (.int .i64 rK)).setCell ⟨V, 1, none⟩ (.int .i64 rlo)).setCell ⟨V, 2, none⟩ (.int .i64 rhi)).setCell ⟨V, 3, none⟩ (.string ⟨rf.toArray⟩)).setCell ⟨V, 4, none⟩ (.string ⟨rt.toArray⟩)).setCell ⟨V, 5, none⟩ (.bool ro)).setCell ⟨V, 6, none⟩ (.slice A7 n7 c7)) = w7 at *
          go_wp2_with fail
          go_roundg (n - (k + 1))
          case measure => omega
          case rel => exact ⟨k + 1, rK, rlo, rhi, rf, rt, ro, rno, A7, n7, c7, by omega, Nat.le_refl _, by go_num, hnk, hc7, HM7, HI7, HV7, HY7, HO7, HBV7, HBG7, HB7⟩
        · skip
          clear z0 z1 z2 z3 z4 z5 z6 y0 y1 y2 y3 y4 y5 y6 hlV
          have hV3 : Blk wr.drew V 29 #[.int .i64 K, .int .i64 lo, .int .i64 hi, .string ⟨f.toArray⟩, .string ⟨t.toArray⟩, .bool o, .slice B m d] := HV.out
          have hY3 : Blk wr.drew w.heap.size 29 #[.int .i64 0, .int .i64 0, .int .i64 0, .string ⟨#[]⟩, .string ⟨#[]⟩, .bool false, .slice none 0 0] := HY.out
          have hO3 : OwnW wr.drew w.heap.size (.slice B m d) es := OwnK.below HO.out (Below.refl _ _).drew
          have hB3 := HB.out.drew
          clear HV HY HO HB
          generalize wr.drew = w4 at *
          go_simp
          with_reducible refine (of_at ⟨xn, xo, xk, xi, xt⟩ w4 (by show xn.length ≤ _; omega) (by show xt.length ≤ _; omega) hp3 hp4).mono ?_
          rintro e w5 ⟨⟨uK, ulo, uhi, uf, ut, uo, uno⟩, hof, hul, A5, n5, c5, rfl, hl5, hc5, ho5, hb5⟩
          dsimp only at hul hl5 ho5
          have hB5 := below_next hB3 (by have := hB3.size; omega) hb5
          have hS1 := HK.out w5 hB5
          have hV5 := Blk.below hV3 hb5 hV3.lt
          have hY5 := Blk.below hY3 hb5 hY3.lt
          have hO5 := OwnK.below hO3 hb5
          go_wp2_with fail
          refine hKa.out _ _ hS1 ?_
          clear hKa Ka hV3 hY3 hO3 hB3 hb5
          obtain ⟨z0, z1, z2, z3, z4, z5, z6, y0, y1, y2, y3, y4, y5, y6⟩ := blk7 hV5
          have hlV := hV5.lt
          refine wpAnyH_one (i := 0) (by kernel_rfl) rfl (by rfl) (fun Ka hKa => ?_)
          go_simp
          refine hKa.out _ _ hS1 ?_
          clear hKa Ka z0 z1 z2 z3 z4 z5 z6 y0 y1 y2 y3 y4 y5 y6 hlV
          refine wpAnyH_one (i := 6) (by kernel_rfl) rfl (by rfl) (fun Ka hKa => ?_)
          go_simp
          have hcA : Canon ⟨K, lo, hi, f, t, o, es⟩ := HI.out.1
          have hcB : Canon ⟨uK, ulo, uhi, uf, ut, uo, uno⟩ := hof.1
          have hrA := Gives.rd hO5
          have hrB := Gives.rd ho5
          with_reducible refine (meet_at ⟨K, lo, hi, f, t, o, es⟩ ⟨uK, ulo, uhi, uf, ut, uo, uno⟩ hcA hcB B m d A5 n5 c5 w5 HM.out (by omega) hl5 (by omega) hrA hrB).mono ?_
          rintro e w6 ⟨⟨rK, rlo, rhi, rf, rt, ro, rno⟩, him, hrl, A7, n7, c7, rfl, hl7, hc7, ho7, hb7⟩
          dsimp only at hrl hl7 ho7
          have hB6 := below_next hB5 (Nat.le_refl _) hb7
          have hS2 := HK.out w6 hB6
          have hV6 := Blk.below hV5 hb7 hV5.lt
          have hY6 := Blk.below hY5 hb7 hY5.lt
          have hA7 := fun a ha => (own_addr ho7 a ha).1
          have hV5l := hV5.lt
          have hY5l := hY5.lt
          go_wp2_with fail
          refine hKa.out _ _ hS2 ?_
          clear hKa Ka hV5 hY5 hO5 hB5
          refine wpAnyH_one (i := 7) (by kernel_rfl) rfl (by rfl) (fun Ka hKa => ?_)
          obtain ⟨z0, z1, z2, z3, z4, z5, z6, y0, y1, y2, y3, y4, y5, y6⟩ := blk7 hV6
          have hlV := hV6.lt
          go_simp
          have HV7 : Hid (Blk (((((((w6.setCell ⟨V, 0, none⟩ (.int .i64 rK)).setCell ⟨V, 1, none⟩ (.int .i64 rlo)).setCell ⟨V, 2, none⟩ (.int .i64 rhi)).setCell ⟨V, 3, none⟩ (.string ⟨rf.toArray⟩)).setCell ⟨V, 4, none⟩ (.string ⟨rt.toArray⟩)).setCell ⟨V, 5, none⟩ (.bool ro)).setCell ⟨V, 6, none⟩ (.slice A7 n7 c7)) V 29 #[.int .i64 rK, .int .i64 rlo, .int .i64 rhi, .string ⟨rf.toArray⟩, .string ⟨rt.toArray⟩, .bool ro, .slice A7 n7 c7]) := Blk.put7 hV6 _ _ _ _ _ _ _
          have HY7 : Hid (Blk (((((((w6.setCell ⟨V, 0, none⟩ (.int .i64 rK)).setCell ⟨V, 1, none⟩ (.int .i64 rlo)).setCell ⟨V, 2, none⟩ (.int .i64 rhi)).setCell ⟨V, 3, none⟩ (.string ⟨rf.toArray⟩)).setCell ⟨V, 4, none⟩ (.string ⟨rt.toArray⟩)).setCell ⟨V, 5, none⟩ (.bool ro)).setCell ⟨V, 6, none⟩ (.slice A7 n7 c7)) w.heap.size 29 #[.int .i64 0, .int .i64 0, .int .i64 0, .string ⟨#[]⟩, .string ⟨#[]⟩, .bool false, .slice none 0 0]) := Blk.far7 hY6 (by omega) _ _ _ _ _ _ _
          have hBV7 : ∀ a, A7 = some a → a.block ≠ V := fun a ha => by have := hA7 a ha; omega
          have HO7 : Hid (OwnW (((((((w6.setCell ⟨V, 0, none⟩ (.int .i64 rK)).setCell ⟨V, 1, none⟩ (.int .i64 rlo)).setCell ⟨V, 2, none⟩ (.int .i64 rhi)).setCell ⟨V, 3, none⟩ (.string ⟨rf.toArray⟩)).setCell ⟨V, 4, none⟩ (.string ⟨rt.toArray⟩)).setCell ⟨V, 5, none⟩ (.bool ro)).setCell ⟨V, 6, none⟩ (.slice A7 n7 c7)) w.heap.size (.slice A7 n7 c7) rno) := own_far7 (ho7.less (by omega)) hBV7 _ _ _ _ _ _ _
          have hB7 : Below w.heap.size w (((((((w6.setCell ⟨V, 0, none⟩ (.int .i64 rK)).setCell ⟨V, 1, none⟩ (.int .i64 rlo)).setCell ⟨V, 2, none⟩ (.int .i64 rhi)).setCell ⟨V, 3, none⟩ (.string ⟨rf.toArray⟩)).setCell ⟨V, 4, none⟩ (.string ⟨rt.toArray⟩)).setCell ⟨V, 5, none⟩ (.bool ro)).setCell ⟨V, 6, none⟩ (.slice A7 n7 c7)) := below_put7 hB6 (by omega) _ _ _ _ _ _ _
          have hS3 := HK.out (((((((w6.setCell ⟨V, 0, none⟩ (.int .i64 rK)).setCell ⟨V, 1, none⟩ (.int .i64 rlo)).setCell ⟨V, 2, none⟩ (.int .i64 rhi)).setCell ⟨V, 3, none⟩ (.string ⟨rf.toArray⟩)).setCell ⟨V, 4, none⟩ (.string ⟨rt.toArray⟩)).setCell ⟨V, 5, none⟩ (.bool ro)).setCell ⟨V, 6, none⟩ (.slice A7 n7 c7)) hB7
          have HB7 := Lib.hid hB7
          have HBG7 : Hid (∀ a, A7 = some a → w.heap.size < a.block) := fun a ha => by have := hA7 a ha; omega
          have HBV7 := Lib.hid hBV7
          have HI7 : Hid (IsAll (l.take (k + 1)) ⟨rK, rlo, rhi, rf, rt, ro, rno⟩) := by
            show IsAll _ _
            rw [List.take_succ_eq_append_getElem hk', HX.out]
            exact all_snoc HI.out hof him
          have HM7 := Lib.hid hl7
          have hnk : n7 ≤ k + 1 := by have := HM.out; omega
          refine hKa.out _ _ hS3 ?_
          clear hKa Ka z0 z1 z2 z3 z4 z5 z6 y0 y1 y2 y3 y4 y5 y6 hlV hV6 hY6 ho7 hB7 hBV7 hS0 hS1 hS2 hS3 hA7 hl7 hof him ho5 hl5
          refine wpAnyH_done (by kernel_rfl) ?_ _
          generalize (((((((w6.setCell ⟨V, 0, none⟩ (.int .i64 rK)).setCell ⟨V, 1, none⟩ (.int .i64 rlo)).setCell ⟨V, 2, none⟩ (.int .i64 rhi)).setCell ⟨V, 3, none⟩ (.string ⟨rf.toArray⟩)).setCell ⟨V, 4, none⟩ (.string ⟨rt.toArray⟩)).setCell ⟨V, 5, none⟩ (.bool ro)).setCell ⟨V, 6, none⟩ (.slice A7 n7 c7)) = w7 at *
          go_wp2_with fail
          go_roundg (n - (k + 1))
          case measure => omega
          case rel => exact ⟨k + 1, rK, rlo, rhi, rf, rt, ro, rno, A7, n7, c7, by omega, Nat.le_refl _, by go_num, hnk, hc7, HM7, HI7, HV7, HY7, HO7, HBV7, HBG7, HB7⟩
    · have hkn : Hid (k = n) := by show k = n; omega
      obtain ⟨u0, u1, u2, u3, u4, u5, u6, q0, q1, q2, q3, q4, q5, q6⟩ := blk7 HY.out
      have hlY := HY.out.lt
      have hne1 : ¬ V = w.heap.size := by omega
      go_wp2_with fail
      refine bodyPost_ret (v := spF K lo hi f t o B m d) (by simp [results, Try.results11, go_sem, u0, u1, u2, u3, u4, u5, u6]) rfl ?_
      have hI := HI.out
      rw [hkn.out, List.take_of_length_le (by rw [HN.out]; exact Nat.le_refl _)] at hI
      exact ⟨⟨K, lo, hi, f, t, o, es⟩, hI, by show es.length ≤ _; have := HM.out; have := HN.out; have := hkn.out; omega, B, m, d, rfl, HM.out, hmd, own_far7 HO.out (fun a ha => Nat.ne_of_gt (HBG.out a ha)) _ _ _ _ _ _ _, below_put7 HB.out (Nat.le_refl _) _ _ _ _ _ _ _⟩
end Go.Proofs.Ytcgmbgfbhdimeaa
