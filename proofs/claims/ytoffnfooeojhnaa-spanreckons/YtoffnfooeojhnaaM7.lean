/- Contracts of the program and of the document (SUse, SPrd, SOnl, SPrs, SSmlM, SSml), each used further on. -/
import Derived.Test.YtoffnfooeojhnaaM5
import Derived.Test.YtoffnfooeojhnaaM6
namespace Go.Proofs.Ytoffnfooeojhnaa
open Go.RowKit Go.Sort Spans Op
/-- Has, field by field. -/
def hasF (K lo hi : Int) (f t : List UInt8) (o : Bool) (es : List Val) (k i : Int) (x : List UInt8) : Bool :=
 Vals.right k i x && (K == 4 || (K == k && ((if K = 2 then inT f t o x else inN lo hi i) && !decide ((⟨k, i, x⟩ : Val) ∈ es))))
set_option maxRecDepth 100000 in
set_option maxHeartbeats 4000000 in
theorem hasF_at (K lo hi : Int) (f t : List UInt8) (o : Bool) (A : Option Addr) (n c : Nat) (es : List Val) (k i : Int) (x : List UInt8) (w : World) (hn : es.length = n) (hm : n <= 100000) (hx : x.length <= 9223372036854775807) (hr : RdW w A es) :
  Calls Try.prog 13 #[spF K lo hi f t o A n c, .agg #[.int .i64 k, .int .i64 i, .string ⟨x.toArray⟩]] w fun e w' => e = .returned (.bool (hasF K lo hi f t o es k i x)) /\ Grown w w' := by
 have HN := Lib.hid hn
 have HG0 := Lib.hid (gr2 w (.cells #[.int .i64 K, .int .i64 lo, .int .i64 hi, .string ⟨f.toArray⟩, .string ⟨t.toArray⟩, .bool o, .slice A n c] 29) (.cells #[.int .i64 k, .int .i64 i, .string ⟨x.toArray⟩] 24))
 have HR0 := Lib.hid (hr.below HG0.out.below)
 have hX0 := (Blk.new w 29 #[.int .i64 K, .int .i64 lo, .int .i64 hi, .string ⟨f.toArray⟩, .string ⟨t.toArray⟩, .bool o, .slice A n c]).alloc (.cells #[.int .i64 k, .int .i64 i, .string ⟨x.toArray⟩] 24)
 have hV0 := Blk.new (w.alloc (.cells #[.int .i64 K, .int .i64 lo, .int .i64 hi, .string ⟨f.toArray⟩, .string ⟨t.toArray⟩, .bool o, .slice A n c] 29)) 24 #[.int .i64 k, .int .i64 i, .string ⟨x.toArray⟩]
 rw [show (w.alloc (.cells #[.int .i64 K, .int .i64 lo, .int .i64 hi, .string ⟨f.toArray⟩, .string ⟨t.toArray⟩, .bool o, .slice A n c] 29)).heap.size = w.heap.size + 1 by simp] at hV0
 clear hn hr
 go_enter Try.func13, Try.ntmps13
 go_wp2_with fail
 generalize ((w.alloc (.cells #[.int .i64 K, .int .i64 lo, .int .i64 hi, .string ⟨f.toArray⟩, .string ⟨t.toArray⟩, .bool o, .slice A n c] 29)).alloc (.cells #[.int .i64 k, .int .i64 i, .string ⟨x.toArray⟩] 24)) = w0 at *
 refine (right_gr k i x w0 hx).mono ?_
 rintro e w1 ⟨rfl, hg1⟩
 have HG1 := Lib.hid (HG0.out.trans hg1)
 have HR1 := Lib.hid (HR0.out.below hg1.below)
 have hX1 := Blk.below hX0 hg1.below hX0.lt
 have hV1 := Blk.below hV0 hg1.below hV0.lt
 obtain ⟨a0, a1, a2, a3, a4, a5, a6, _⟩ := blk7 hX1
 obtain ⟨v0, v1, v2, _⟩ := blk3 hV1
 have hl1 := hX1.lt
 have hl2 := hV1.lt
 clear HG0 HR0 hX0 hV0 hg1
 cases hri : Vals.right k i x with
 | false =>
  go_wp2_with fail
  go_ret
  exact ⟨ret_b (by simp [hasF, hri]), HG1.out⟩
 | true =>
  have HRI := Lib.hid hri
  clear hri
  by_cases h4 : K = 4
  ·subst h4
   go_wp2_with fail
   go_ret
   exact ⟨ret_b (by simp [hasF, HRI.out]), HG1.out⟩
  have q4 : (K == 4) = false := beq_eq_false_iff_ne.2 h4
  by_cases hkk : K = k
  ·subst hkk
   have HBT : Hid (∀ W, Calls Try.prog 31 #[spF K lo hi f t o A n c, .agg #[.int .i64 K, .int .i64 i, .string ⟨x.toArray⟩]] W fun e w' => e = .returned (.bool (if K = 2 then inT f t o x else inN lo hi i)) /\ Grown W w') := by
    intro W
    by_cases h2 : K = 2
    ·subst h2; exact between_text lo hi f t o A n c 2 i x W
    ·rw [if_neg h2]; exact between_num K lo hi f t o A n c K i x W h2
   go_wp2_with fail
   refine (HBT.out _).mono ?_
   rintro e w2 ⟨rfl, hg2⟩
   cases hb : (if K = 2 then inT f t o x else inN lo hi i) with
   | false =>
    have HBB := Lib.hid hb
    clear hb
    go_wp2_with fail
    go_ret
    exact ⟨ret_b (by simp [hasF, q4, HBB.out]), HG1.out.trans hg2⟩
   | true =>
    have HBB := Lib.hid hb
    clear hb
    have hX2 := Blk.below hX1 hg2.below hX1.lt
    have hV2 := Blk.below hV1 hg2.below hV1.lt
    have HR2 := Lib.hid (HR1.out.below hg2.below)
    clear a0 a1 a2 a3 a4 a5 a6 v0 v1 v2 hl1 hl2
    obtain ⟨a0, a1, a2, a3, a4, a5, a6, _⟩ := blk7 hX2
    obtain ⟨v0, v1, v2, _⟩ := blk3 hV2
    have hl1 := hX2.lt
    have hl2 := hV2.lt
    go_wp2_with fail
    refine (containsV_at A es n c HN.out hm K i x w2 HR2.out _ rfl).mono ?_
    rintro e w3 ⟨rfl, hg3⟩
    go_wp2_with fail
    go_ret
    refine ⟨ret_b ?_, (HG1.out.trans hg2).trans hg3⟩
    simp [hasF, HRI.out, q4, HBB.out]
  ·have qk : (K == k) = false := beq_eq_false_iff_ne.2 hkk
   go_wp2_with fail
   go_ret
   exact ⟨ret_b (by simp [hasF, q4, qk]), HG1.out⟩
theorem hasF_is {a : Sp} (hc : Canon a) {v : Val} (h1 : -9223372036854775808 <= v.i) (h2 : v.i <= 9223372036854775807) : hasF a.kind a.lo a.hi a.frm a.to_ a.opn a.no v.k v.i v.t = has a v := by
 have hr : rightV v = Vals.right v.k v.i v.t := by unfold rightV; simp [h1, h2]
 unfold hasF has
 rw [<- hr]
 by_cases h0 : a.kind = 0
 ·have e := kind_none hc h0
  subst e
  cases hv : rightV v with
  | false => rfl
  | true =>
   have hk : v.k ≠ 0 := by
    rw [hr] at hv
    rcases Vals.right_cases hv with ⟨h, _⟩ | ⟨h, _⟩ | ⟨h, _⟩ <;> omega
   have : ((0 : Int) == v.k) = false := beq_eq_false_iff_ne.2 (Ne.symm hk)
   simp [none_, this]
 ·rw [if_neg h0]
  by_cases h4 : a.kind = 4
  ·rw [if_pos h4]; simp [h4]
  ·rw [if_neg h4]
   have q4 : (a.kind == 4) = false := beq_eq_false_iff_ne.2 h4
   rw [q4]
   by_cases hk : a.kind = v.k
   ·have e : decide (v.k = a.kind) = true := decide_eq_true hk.symm
    rw [e]
    have e2 : (a.kind == v.k) = true := beq_iff_eq.2 hk
    rw [e2]
    cases rightV v <;> cases decide (v ∈ a.no) <;> simp
   ·have e : decide (v.k = a.kind) = false := decide_eq_false (Ne.symm hk)
    have e2 : (a.kind == v.k) = false := beq_eq_false_iff_ne.2 hk
    rw [e, e2]
    cases rightV v <;> simp
theorem has_at (a : Sp) (hc : Canon a) (A : Option Addr) (n c : Nat) (v : Val) (w : World) (hn : a.no.length = n) (hm : n <= 100000) (hx : v.t.length <= 9223372036854775807) (h1 : -9223372036854775808 <= v.i) (h2 : v.i <= 9223372036854775807) (hr : RdW w A a.no) (b : Bool) (hb : has a v = b) :
  Calls Try.prog 13 #[spF a.kind a.lo a.hi a.frm a.to_ a.opn A n c, .agg #[.int .i64 v.k, .int .i64 v.i, .string ⟨v.t.toArray⟩]] w fun e w' => e = .returned (.bool b) /\ Grown w w' := by
 rw [<- hb, <- hasF_is hc h1 h2]
 exact hasF_at a.kind a.lo a.hi a.frm a.to_ a.opn A n c a.no v.k v.i v.t w hn hm hx hr
theorem in_meet {a b r : Sp} (ha : Canon a) (hb : Canon b) (h : IsMeet a b r) : decide (r = a) = inn a b := by
 rw [Bool.eq_iff_iff, decide_eq_true_iff, in_iff ha hb]
 constructor
 ·intro e v hv
  subst e
  have := h.has v
  rw [hv] at this
  simpa using this.symm
 ·intro hs
  refine Spans.one h.1 ha fun v => ?_
  rw [h.has v]
  cases hv : has a v with
  | false => rfl
  | true => rw [hs v hv]; rfl
set_option maxRecDepth 100000 in
set_option maxHeartbeats 4000000 in
theorem in_at (a b : Sp) (ha : Canon a) (hb : Canon b) (A : Option Addr) (n c : Nat) (A' : Option Addr) (n' c' : Nat) (w : World) (hn : a.no.length = n) (hm : n <= 1000) (hn' : b.no.length = n') (hm' : n' <= 1000) (hr : RdW w A a.no) (hr' : RdW w A' b.no) (q : Bool) (hq : inn a b = q) :
  Calls Try.prog 11 #[spF a.kind a.lo a.hi a.frm a.to_ a.opn A n c, spF b.kind b.lo b.hi b.frm b.to_ b.opn A' n' c'] w fun e w' => e = .returned (.bool q) /\ Below w.heap.size w w' := by
 have hmt := fun W hrW hrW' => meet_at a b ha hb A n c A' n' c' W hn hm hn' hm' hrW hrW'
 have HQ : Hid (∀ r, IsMeet a b r -> decide (r = a) = q) := fun r h => (in_meet ha hb h).trans hq
 obtain ⟨K, lo, hi, f, t, o, es⟩ := a
 obtain ⟨K', lo', hi', f', t', o', fs⟩ := b
 dsimp only at hn hn' hr hr' hmt ⊢
 have HN := Lib.hid hn
 have HN' := Lib.hid hn'
 clear ha hb hq hn hn'
 have hgr := gr2 w (.cells #[.int .i64 K, .int .i64 lo, .int .i64 hi, .string ⟨f.toArray⟩, .string ⟨t.toArray⟩, .bool o, .slice A n c] 29) (.cells #[.int .i64 K', .int .i64 lo', .int .i64 hi', .string ⟨f'.toArray⟩, .string ⟨t'.toArray⟩, .bool o', .slice A' n' c'] 29)
 have HR := Lib.hid (hr.below hgr.below)
 have HR' := Lib.hid (hr'.below hgr.below)
 have hX := (Blk.new w 29 #[.int .i64 K, .int .i64 lo, .int .i64 hi, .string ⟨f.toArray⟩, .string ⟨t.toArray⟩, .bool o, .slice A n c]).alloc (.cells #[.int .i64 K', .int .i64 lo', .int .i64 hi', .string ⟨f'.toArray⟩, .string ⟨t'.toArray⟩, .bool o', .slice A' n' c'] 29)
 have hY := Blk.new (w.alloc (.cells #[.int .i64 K, .int .i64 lo, .int .i64 hi, .string ⟨f.toArray⟩, .string ⟨t.toArray⟩, .bool o, .slice A n c] 29)) 29 #[.int .i64 K', .int .i64 lo', .int .i64 hi', .string ⟨f'.toArray⟩, .string ⟨t'.toArray⟩, .bool o', .slice A' n' c']
 rw [show (w.alloc (.cells #[.int .i64 K, .int .i64 lo, .int .i64 hi, .string ⟨f.toArray⟩, .string ⟨t.toArray⟩, .bool o, .slice A n c] 29)).heap.size = w.heap.size + 1 by simp] at hY
 have HB := Lib.hid hgr.below
 clear hr hr' hgr
 have HMT := Lib.hid hmt
 clear hmt
 go_enter Try.func11, Try.ntmps11
 go_wp2_with fail
 generalize ((w.alloc (.cells #[.int .i64 K, .int .i64 lo, .int .i64 hi, .string ⟨f.toArray⟩, .string ⟨t.toArray⟩, .bool o, .slice A n c] 29)).alloc (.cells #[.int .i64 K', .int .i64 lo', .int .i64 hi', .string ⟨f'.toArray⟩, .string ⟨t'.toArray⟩, .bool o', .slice A' n' c'] 29)) = w0 at *
 have hS0 : Blk w0.drew w.heap.size 29 #[.int .i64 K, .int .i64 lo, .int .i64 hi, .string ⟨f.toArray⟩, .string ⟨t.toArray⟩, .bool o, .slice A n c] /\ Blk w0.drew (w.heap.size + 1) 29 #[.int .i64 K', .int .i64 lo', .int .i64 hi', .string ⟨f'.toArray⟩, .string ⟨t'.toArray⟩, .bool o', .slice A' n' c'] := ⟨hX, hY⟩
 have hR0 : RdW w0.drew A es := HR.out.below (Below.refl _ _).drew
 have hR0' : RdW w0.drew A' fs := HR'.out.below (Below.refl _ _).drew
 have hB0 : Below w.heap.size w w0.drew := HB.out.drew
 clear hX hY HR HR' HB
 refine wp_region_held_drew (S := fun w' => Blk w' w.heap.size 29 #[.int .i64 K, .int .i64 lo, .int .i64 hi, .string ⟨f.toArray⟩, .string ⟨t.toArray⟩, .bool o, .slice A n c] /\ Blk w' (w.heap.size + 1) 29 #[.int .i64 K', .int .i64 lo', .int .i64 hi', .string ⟨f'.toArray⟩, .string ⟨t'.toArray⟩, .bool o', .slice A' n' c']) (by kernel_rfl) hS0 (fun _ => ?_)
 refine wpAnyH_yes (i := 0) (d := 5) (v := ?_) rfl rfl (by kernel_rfl) (by kernel_rfl) (by kernel_rfl) (fun _ _ _ h => h) (by rfl) ?_ hS0 ?_
 rotate_left
 ·intro w' hSw; obtain ⟨h7, h8⟩ := hSw; obtain ⟨s0, s1, s2, s3, s4, s5, s6, _⟩ := blk7 h7; obtain ⟨r0, r1, r2, r3, r4, r5, r6, _⟩ := blk7 h8; go_simp <;> with_reducible rfl
 simp only [Act.put, List.setIfInBounds_toArray, List.set_cons_zero, List.set_cons_succ]
 refine wpAnyH_yes (i := 1) (d := 6) (v := ?_) rfl rfl (by kernel_rfl) (by kernel_rfl) (by kernel_rfl) (fun _ _ _ h => h) (by rfl) ?_ hS0 ?_
 rotate_left
 ·intro w' hSw; obtain ⟨h7, h8⟩ := hSw; obtain ⟨s0, s1, s2, s3, s4, s5, s6, _⟩ := blk7 h7; obtain ⟨r0, r1, r2, r3, r4, r5, r6, _⟩ := blk7 h8; go_simp <;> with_reducible rfl
 simp only [Act.put, List.setIfInBounds_toArray, List.set_cons_zero, List.set_cons_succ]
 refine wpAnyH_yes (i := 3) (d := 8) (v := ?_) rfl rfl (by kernel_rfl) (by kernel_rfl) (by kernel_rfl) (fun _ _ _ h => h) (by rfl) ?_ hS0 ?_
 rotate_left
 ·intro w' hSw; obtain ⟨h7, h8⟩ := hSw; obtain ⟨s0, s1, s2, s3, s4, s5, s6, _⟩ := blk7 h7; obtain ⟨r0, r1, r2, r3, r4, r5, r6, _⟩ := blk7 h8; go_simp <;> with_reducible rfl
 simp only [Act.put, List.setIfInBounds_toArray, List.set_cons_zero, List.set_cons_succ]
 generalize w0.drew = w1 at *
 refine wpAnyH_one (i := 2) (by kernel_rfl) rfl (by rfl) (fun Ka hKa => ?_)
 go_simp
 with_reducible refine (HMT.out w1 hR0 hR0').mono ?_
 rintro e w2 ⟨⟨rK, rlo, rhi, rf, rt, ro, rno⟩, him, hrl, A7, n7, c7, rfl, hl7, hc7, ho7, hb7⟩
 dsimp only at hrl hl7 ho7
 have HIM := Lib.hid him
 have hS1 : Blk w2 w.heap.size 29 #[.int .i64 K, .int .i64 lo, .int .i64 hi, .string ⟨f.toArray⟩, .string ⟨t.toArray⟩, .bool o, .slice A n c] /\ Blk w2 (w.heap.size + 1) 29 #[.int .i64 K', .int .i64 lo', .int .i64 hi', .string ⟨f'.toArray⟩, .string ⟨t'.toArray⟩, .bool o', .slice A' n' c'] := ⟨Blk.below hS0.1 hb7 hS0.1.lt, Blk.below hS0.2 hb7 hS0.2.lt⟩
 have hR2 := hR0.below hb7
 have hB2 := below_next hB0 (Nat.le_refl _) hb7
 have hR7 := Gives.rd ho7
 have hn7 : n7 <= 100000 := by have := HN.out; have := HN'.out; omega
 go_wp2_with fail
 refine hKa.out _ _ hS1 ?_
 clear hKa Ka
 refine wpAnyH_one (i := 4) (by kernel_rfl) rfl (by rfl) (fun Ka hKa => ?_)
 go_simp
 with_reducible refine (spSame_at rK rlo rhi rf rt ro A7 n7 c7 K lo hi f t o A n c w2 rno es hl7 hn7 HN.out (by omega) hR7 hR2).mono ?_
 rintro e w3 ⟨rfl, hg3⟩
 rw [HQ.out _ HIM.out]
 have hS2 : Blk w3 w.heap.size 29 #[.int .i64 K, .int .i64 lo, .int .i64 hi, .string ⟨f.toArray⟩, .string ⟨t.toArray⟩, .bool o, .slice A n c] /\ Blk w3 (w.heap.size + 1) 29 #[.int .i64 K', .int .i64 lo', .int .i64 hi', .string ⟨f'.toArray⟩, .string ⟨t'.toArray⟩, .bool o', .slice A' n' c'] := ⟨Blk.below hS1.1 hg3.below hS1.1.lt, Blk.below hS1.2 hg3.below hS1.2.lt⟩
 have hB3 := below_next hB2 (Nat.le_refl _) hg3.below
 go_wp2_with fail
 refine hKa.out _ _ hS2 ?_
 clear hKa Ka
 refine wpAnyH_yes (i := 5) (d := 4) (v := ?_) rfl rfl (by kernel_rfl) (by kernel_rfl) (by kernel_rfl) (fun _ _ _ h => h) (by rfl) ?_ hS2 ?_
 rotate_left
 ·intro w' hSw; go_simp <;> with_reducible rfl
 simp only [Act.put, List.setIfInBounds_toArray, List.set_cons_zero, List.set_cons_succ]
 refine wpAnyH_done (by kernel_rfl) ?_ _
 go_wp2_with fail
 go_ret
 exact ⟨rfl, hB3⟩
/-- Are predicates few, and short? -/
def fewP (l : List Pr) : Bool := decide (∀ p ∈ l, p.n.length <= 100 /\ p.t.length <= 100) && decide (l.length <= 24)
set_option maxRecDepth 100000 in
set_option maxHeartbeats 2000000 in
theorem few_at (A : Option Addr) (l : List Pr) (n c : Nat) (hn : l.length = n) (hm : n <= 9223372036854775807) (hl : ∀ p ∈ l, p.n.length <= 9223372036854775807 /\ p.t.length <= 9223372036854775807) (w : World) (hr : RdQ w A l) (b : Bool) (hb : fewP l = b) :
  Calls Try.prog 5 #[.slice A n c] w fun e w' => e = .returned (.bool b) /\ w' = w := by
 subst hb
 have HN := Lib.hid hn
 have HLL := Lib.hid hl
 clear hn hl
 go_enter Try.func5, Try.ntmps5
 go_wp2_with fail
 go_loopg [3] n (fun gg s3 wr => w = wr /\ ∃ k : Nat, k <= n /\ n - k <= gg /\ s3 = .int .i64 (k : Int) /\ Hid (∀ p ∈ l.take k, p.n.length <= 100 /\ p.t.length <= 100))
 case atStart => exact ⟨rfl, 0, Nat.zero_le _, by omega, rfl, by show ∀ _, _; simp⟩
 case round =>
  obtain ⟨rfl, k, hk, hgg, rfl, HA⟩ := hrel
  by_cases hlt : k < n
  ·have hk' : k < l.length := by rw [HN.out]; exact hlt
   obtain ⟨g, off, rfl, hg, c0, c1, c2, c3, c4⟩ := RdQ.at5 hr hk'
   have hpl := HLL.out _ (List.getElem_mem hk')
   obtain ⟨x, hx⟩ : ∃ x, l[k] = x := ⟨_, rfl⟩
   have HX := Lib.hid hx
   rw [hx] at c0 c1 c2 c3 c4 hpl
   clear hx
   obtain ⟨xn, xo, xk, xi, xt⟩ := x
   obtain ⟨hp1, hp2⟩ := hpl
   dsimp only at hp1 hp2
   have w5 : (k : Int) < (n : Int) := by omega
   by_cases hs : xn.length <= 100 /\ xt.length <= 100
   ·obtain ⟨hs1, hs2⟩ := hs
    have HQ : Hid (∀ p ∈ l.take (k + 1), p.n.length <= 100 /\ p.t.length <= 100) := by
     show ∀ p ∈ l.take (k + 1), _
     rw [List.take_succ_eq_append_getElem hk', HX.out]
     intro v hv
     rcases List.mem_append.1 hv with hv | hv
     ·exact HA.out v hv
     ·simp at hv; subst hv; exact ⟨hs1, hs2⟩
    have v1 : ¬ (100 : Int) < (xn.length : Int) := by omega
    have v2 : ¬ (100 : Int) < (xt.length : Int) := by omega
    go_wp2_with fail
    go_roundg (n - (k + 1))
    case measure => omega
    case rel => exact ⟨rfl, k + 1, by omega, Nat.le_refl _, by go_num, HQ⟩
   ·have HQ : Hid (fewP l = false) := by
     show fewP l = false
     unfold fewP
     rw [decide_eq_false (fun h => hs (by have := h _ (List.getElem_mem hk'); rw [HX.out] at this; exact this))]
     rfl
    by_cases h1 : xn.length <= 100
    ·have h2 : ¬ xt.length <= 100 := fun h => hs ⟨h1, h⟩
     have v1 : ¬ (100 : Int) < (xn.length : Int) := by omega
     have v2 : (100 : Int) < (xt.length : Int) := by omega
     clear hs
     go_wp2_with fail
     go_ret
     exact ⟨ret_b HQ.out.symm, rfl⟩
    ·have v1 : (100 : Int) < (xn.length : Int) := by omega
     clear hs
     go_wp2_with fail
     go_ret
     exact ⟨ret_b HQ.out.symm, rfl⟩
  ·have hkn : Hid (k = n) := by show k = n; omega
   go_wp2_with fail
   go_ret
   refine ⟨ret_b ?_, rfl⟩
   have h := HA.out
   rw [hkn.out, List.take_of_length_le (by rw [HN.out]; exact Nat.le_refl _)] at h
   unfold fewP
   rw [decide_eq_true h, HN.out]
   simp
   omega
/-- What Fold tells. -/
def Folds (w : World) (l : List Pr) (e : Ending) (w' : World) : Prop := ∃ r, IsAll l r /\ r.no.length <= l.length /\ Gives w r e w'
theorem own_far7 {w : World} {base : Nat} {A : Option Addr} {n c : Nat} {l : List Val} {b : Nat} (h : OwnW w base (.slice A n c) l) (hb : ∀ a, A = some a -> a.block ≠ b) (u0 u1 u2 u3 u4 u5 u6 : Value) :
  OwnW (((((((w.setCell ⟨b, 0, none⟩ u0).setCell ⟨b, 1, none⟩ u1).setCell ⟨b, 2, none⟩ u2).setCell ⟨b, 3, none⟩ u3).setCell ⟨b, 4, none⟩ u4).setCell ⟨b, 5, none⟩ u5).setCell ⟨b, 6, none⟩ u6) base (.slice A n c) l :=
 own_far (own_far (own_far (own_far (own_far (own_far (own_far h hb) hb) hb) hb) hb) hb) hb
set_option maxRecDepth 100000 in
set_option maxHeartbeats 4000000 in
theorem fold_at (A : Option Addr) (l : List Pr) (n c : Nat) (hn : l.length = n) (hm : n <= 100) (hl : ∀ p ∈ l, p.n.length <= 100 /\ p.t.length <= 100 /\ -9223372036854775808 <= p.i /\ p.i <= 9223372036854775807) (w : World) (hr : RdQ w A l) :
  Calls Try.prog 6 #[.slice A n c] w (Folds w l) := by
 have HN := Lib.hid hn
 have HLL := Lib.hid hl
 have HR := Lib.hid hr
 clear hn hl hr
 have hY0 := Blk.new w 29 #[.int .i64 0, .int .i64 0, .int .i64 0, .string ⟨#[]⟩, .string ⟨#[]⟩, .bool false, .slice none 0 0]
 have hg0 := gr1 w (.cells #[.int .i64 0, .int .i64 0, .int .i64 0, .string ⟨#[]⟩, .string ⟨#[]⟩, .bool false, .slice none 0 0] 29)
 go_enter Try.func6, Try.ntmps6
 go_wp2_with fail
 generalize w.alloc (.cells #[.int .i64 0, .int .i64 0, .int .i64 0, .string ⟨#[]⟩, .string ⟨#[]⟩, .bool false, .slice none 0 0] 29) = w0 at *
 refine (all_at w0).mono ?_
 rintro e w1 ⟨rfl, hg1⟩
 have hY1 := Blk.below hY0 hg1.below hY0.lt
 have hB1 := (hg0.trans hg1).below
 have hb2 : Below w1.heap.size w1 (w1.alloc (.cells #[.int .i64 4, .int .i64 0, .int .i64 0, .string ⟨#[]⟩, .string ⟨#[]⟩, .bool false, .slice none 0 0] 29)) := (Below.refl _ _).alloc (Nat.le_refl _) _
 have hV2 : Blk (w1.alloc (.cells #[.int .i64 4, .int .i64 0, .int .i64 0, .string ⟨#[]⟩, .string ⟨#[]⟩, .bool false, .slice none 0 0] 29)) w1.heap.size 29 #[.int .i64 4, .int .i64 0, .int .i64 0, .string ⟨#[]⟩, .string ⟨#[]⟩, .bool false, .slice none 0 0] := Blk.new _ _ _
 have HY2 := Lib.hid (Blk.below hY1 hb2 hY1.lt)
 have HB2 := Lib.hid (below_next hB1 (Nat.le_refl _) hb2)
 have HV2 := Lib.hid hV2
 have hVl : w.heap.size < w1.heap.size := hY1.lt
 clear hY0 hg0 hg1 hY1 hB1 hb2 hV2
 go_wp2_with fail
 generalize w1.alloc (.cells #[.int .i64 4, .int .i64 0, .int .i64 0, .string ⟨#[]⟩, .string ⟨#[]⟩, .bool false, .slice none 0 0] 29) = w2 at *
 generalize w1.heap.size = V at *
 go_loopg [4] n (fun gg s4 wr => ∃ (k : Nat) (K lo hi : Int) (f t : List UInt8) (o : Bool) (es : List Val) (B : Option Addr) (m d : Nat), k <= n /\ n - k <= gg /\ s4 = .int .i64 (k : Int) /\ m <= k /\ m <= d /\ Hid (es.length = m) /\ Hid (IsAll (l.take k) ⟨K, lo, hi, f, t, o, es⟩) /\ Hid (Blk wr V 29 #[.int .i64 K, .int .i64 lo, .int .i64 hi, .string ⟨f.toArray⟩, .string ⟨t.toArray⟩, .bool o, .slice B m d]) /\ Hid (Blk wr w.heap.size 29 #[.int .i64 0, .int .i64 0, .int .i64 0, .string ⟨#[]⟩, .string ⟨#[]⟩, .bool false, .slice none 0 0]) /\ Hid (OwnW wr w.heap.size (.slice B m d) es) /\ Hid (∀ a, B = some a -> a.block ≠ V) /\ Hid (∀ a, B = some a -> w.heap.size < a.block) /\ Hid (Below w.heap.size w wr))
 case atStart => exact ⟨0, 4, 0, 0, [], [], false, [], none, 0, 0, Nat.zero_le _, by omega, rfl, Nat.le_refl _, Nat.le_refl _, rfl, by show IsAll _ _; exact all_nil, HV2, HY2, OwnK.none_ _ _, fun a ha => by simp at ha, fun a ha => by simp at ha, HB2⟩
 case round =>
  obtain ⟨k, K, lo, hi, f, t, o, es, B, m, d, hk, hgg, rfl, hmk, hmd, HM, HI, HV, HY, HO, HBV, HBG, HB⟩ := hrel
  clear HV2 HY2 HB2
  obtain ⟨z0, z1, z2, z3, z4, z5, z6, y0, y1, y2, y3, y4, y5, y6⟩ := blk7 HV.out
  have hlV := HV.out.lt
  by_cases hlt : k < n
  ·have hk' : k < l.length := by rw [HN.out]; exact hlt
   have hpl := HLL.out _ (List.getElem_mem hk')
   obtain ⟨g, off, rfl, hg, c0, c1, c2, c3, c4⟩ := RdQ.at5 HR.out hk'
   obtain ⟨x, hx⟩ : ∃ x, l[k] = x := ⟨_, rfl⟩
   have HX := Lib.hid hx
   rw [hx] at c0 c1 c2 c3 c4 hpl
   clear hx
   obtain ⟨xn, xo, xk, xi, xt⟩ := x
   obtain ⟨hp1, hp2, hp3, hp4⟩ := hpl
   dsimp only at hp1 hp2 hp3 hp4
   have hkeep : ∀ w', Below w.heap.size w w' -> w'.cell? ⟨g, off + k * 5, none⟩ = some (.string ⟨xn.toArray⟩) /\ w'.cell? ⟨g, off + k * 5 + 1, none⟩ = some (.int .i64 xo) /\ w'.cell? ⟨g, off + k * 5 + 2, none⟩ = some (.int .i64 xk) /\ w'.cell? ⟨g, off + k * 5 + 3, none⟩ = some (.int .i64 xi) /\ w'.cell? ⟨g, off + k * 5 + 4, none⟩ = some (.string ⟨xt.toArray⟩) := fun w' hb => ⟨(hb.cell (p := ⟨g, off + k * 5, none⟩) hg).trans c0, (hb.cell (p := ⟨g, off + k * 5 + 1, none⟩) hg).trans c1, (hb.cell (p := ⟨g, off + k * 5 + 2, none⟩) hg).trans c2, (hb.cell (p := ⟨g, off + k * 5 + 3, none⟩) hg).trans c3, (hb.cell (p := ⟨g, off + k * 5 + 4, none⟩) hg).trans c4⟩
   have HK := Lib.hid hkeep
   clear hkeep c0 c1 c2 c3 c4
   have w5 : (k : Int) < (n : Int) := by omega
   have hS0 := HK.out wr.drew HB.out.drew
   go_wp2_with fail
   refine wp_region_held_drew (S := fun w' => w'.cell? ⟨g, off + k * 5, none⟩ = some (.string ⟨xn.toArray⟩) /\ w'.cell? ⟨g, off + k * 5 + 1, none⟩ = some (.int .i64 xo) /\ w'.cell? ⟨g, off + k * 5 + 2, none⟩ = some (.int .i64 xk) /\ w'.cell? ⟨g, off + k * 5 + 3, none⟩ = some (.int .i64 xi) /\ w'.cell? ⟨g, off + k * 5 + 4, none⟩ = some (.string ⟨xt.toArray⟩)) (by kernel_rfl) hS0 (fun _ => ?_)
   refine wpAnyH_yes (i := 1) (d := 13) (v := ?_) rfl rfl (by kernel_rfl) (by kernel_rfl) (by kernel_rfl) (fun _ _ _ h => h) (by rfl) ?_ hS0 ?_
   rotate_left
   ·intro w' hSw; obtain ⟨s0, s1, s2, s3, s4⟩ := hSw; go_simp <;> with_reducible rfl
   simp only [Act.put, List.setIfInBounds_toArray, List.set_cons_zero, List.set_cons_succ]
   refine wpAnyH_yes (i := 2) (d := 14) (v := ?_) rfl rfl (by kernel_rfl) (by kernel_rfl) (by kernel_rfl) (fun _ _ _ h => h) (by rfl) ?_ hS0 ?_
   rotate_left
   ·intro w' hSw; obtain ⟨s0, s1, s2, s3, s4⟩ := hSw; go_simp <;> with_reducible rfl
   simp only [Act.put, List.setIfInBounds_toArray, List.set_cons_zero, List.set_cons_succ]
   refine wpAnyH_yes (i := 3) (d := 15) (v := ?_) rfl rfl (by kernel_rfl) (by kernel_rfl) (by kernel_rfl) (fun _ _ _ h => h) (by rfl) ?_ hS0 ?_
   rotate_left
   ·intro w' hSw; obtain ⟨s0, s1, s2, s3, s4⟩ := hSw; go_simp <;> with_reducible rfl
   simp only [Act.put, List.setIfInBounds_toArray, List.set_cons_zero, List.set_cons_succ]
   refine wpAnyH_pair (i := 0) (j := 4) (by kernel_rfl) rfl rfl (by rfl) (by rfl) (fun Ka hKa => ?_) (fun Ka hKa => ?_)
   ·go_simp
    refine hKa.out _ _ hS0 ?_
    clear hKa Ka
    refine wpAnyH_yes (i := 4) (d := 16) (v := ?_) rfl rfl (by kernel_rfl) (by kernel_rfl) (by kernel_rfl) (fun _ _ _ h => h) (by rfl) ?_ hS0 ?_
    rotate_left
    ·intro w' hSw; obtain ⟨s0, s1, s2, s3, s4⟩ := hSw; go_simp <;> with_reducible rfl
    simp only [Act.put, List.setIfInBounds_toArray, List.set_cons_zero, List.set_cons_succ]
    clear z0 z1 z2 z3 z4 z5 z6 y0 y1 y2 y3 y4 y5 y6 hlV
    have hV3 : Blk wr.drew V 29 #[.int .i64 K, .int .i64 lo, .int .i64 hi, .string ⟨f.toArray⟩, .string ⟨t.toArray⟩, .bool o, .slice B m d] := HV.out
    have hY3 : Blk wr.drew w.heap.size 29 #[.int .i64 0, .int .i64 0, .int .i64 0, .string ⟨#[]⟩, .string ⟨#[]⟩, .bool false, .slice none 0 0] := HY.out
    have hO3 : OwnW wr.drew w.heap.size (.slice B m d) es := OwnK.below HO.out (Below.refl _ _).drew
    have hB3 := HB.out.drew
    clear HV HY HO HB
    generalize wr.drew = w4 at *
    refine wpAnyH_one (i := 5) (by kernel_rfl) rfl (by rfl) (fun Ka hKa => ?_)
    go_simp
    with_reducible refine (of_at ⟨xn, xo, xk, xi, xt⟩ w4 (by show xn.length <= _; omega) (by show xt.length <= _; omega) hp3 hp4).mono ?_
    rintro e w5 ⟨⟨uK, ulo, uhi, uf, ut, uo, uno⟩, hof, hul, A5, n5, c5, rfl, hl5, hc5, ho5, hb5⟩
    dsimp only at hul hl5 ho5
    have hB5 := below_next hB3 (by have := hB3.size; omega) hb5
    have hS1 := HK.out w5 hB5
    have hV5 := Blk.below hV3 hb5 hV3.lt
    have hY5 := Blk.below hY3 hb5 hY3.lt
    have hO5 := OwnK.below hO3 hb5
    go_wp2_with fail
    refine hKa.out _ _ hS1 ?_
    clear hKa Ka hV3 hY3 hO3 hB3 hb5
    refine wpAnyH_one (i := 6) (by kernel_rfl) rfl (by rfl) (fun Ka hKa => ?_)
    go_simp
    have hcA : Canon ⟨K, lo, hi, f, t, o, es⟩ := HI.out.1
    have hcB : Canon ⟨uK, ulo, uhi, uf, ut, uo, uno⟩ := hof.1
    have hrA := Gives.rd hO5
    have hrB := Gives.rd ho5
    with_reducible refine (meet_at ⟨K, lo, hi, f, t, o, es⟩ ⟨uK, ulo, uhi, uf, ut, uo, uno⟩ hcA hcB B m d A5 n5 c5 w5 HM.out (by omega) hl5 (by omega) hrA hrB).mono ?_
    rintro e w6 ⟨⟨rK, rlo, rhi, rf, rt, ro, rno⟩, him, hrl, A7, n7, c7, rfl, hl7, hc7, ho7, hb7⟩
    dsimp only at hrl hl7 ho7
    have hB6 := below_next hB5 (Nat.le_refl _) hb7
    have hS2 := HK.out w6 hB6
    have hV6 := Blk.below hV5 hb7 hV5.lt
    have hY6 := Blk.below hY5 hb7 hY5.lt
    have hA7 := fun a ha => (own_addr ho7 a ha).1
    have hV5l := hV5.lt
    have hY5l := hY5.lt
    go_wp2_with fail
    refine hKa.out _ _ hS2 ?_
    clear hKa Ka hV5 hY5 hO5 hB5
    refine wpAnyH_one (i := 7) (by kernel_rfl) rfl (by rfl) (fun Ka hKa => ?_)
    obtain ⟨z0, z1, z2, z3, z4, z5, z6, y0, y1, y2, y3, y4, y5, y6⟩ := blk7 hV6
    have hlV := hV6.lt
    go_simp
    have HV7 : Hid (Blk (((((((w6.setCell ⟨V, 0, none⟩ (.int .i64 rK)).setCell ⟨V, 1, none⟩ (.int .i64 rlo)).setCell ⟨V, 2, none⟩ (.int .i64 rhi)).setCell ⟨V, 3, none⟩ (.string ⟨rf.toArray⟩)).setCell ⟨V, 4, none⟩ (.string ⟨rt.toArray⟩)).setCell ⟨V, 5, none⟩ (.bool ro)).setCell ⟨V, 6, none⟩ (.slice A7 n7 c7)) V 29 #[.int .i64 rK, .int .i64 rlo, .int .i64 rhi, .string ⟨rf.toArray⟩, .string ⟨rt.toArray⟩, .bool ro, .slice A7 n7 c7]) := Blk.put7 hV6 _ _ _ _ _ _ _
    have HY7 : Hid (Blk (((((((w6.setCell ⟨V, 0, none⟩ (.int .i64 rK)).setCell ⟨V, 1, none⟩ (.int .i64 rlo)).setCell ⟨V, 2, none⟩ (.int .i64 rhi)).setCell ⟨V, 3, none⟩ (.string ⟨rf.toArray⟩)).setCell ⟨V, 4, none⟩ (.string ⟨rt.toArray⟩)).setCell ⟨V, 5, none⟩ (.bool ro)).setCell ⟨V, 6, none⟩ (.slice A7 n7 c7)) w.heap.size 29 #[.int .i64 0, .int .i64 0, .int .i64 0, .string ⟨#[]⟩, .string ⟨#[]⟩, .bool false, .slice none 0 0]) := Blk.far7 hY6 (by omega) _ _ _ _ _ _ _
    have hBV7 : ∀ a, A7 = some a -> a.block ≠ V := fun a ha => by have := hA7 a ha; omega
    have HO7 : Hid (OwnW (((((((w6.setCell ⟨V, 0, none⟩ (.int .i64 rK)).setCell ⟨V, 1, none⟩ (.int .i64 rlo)).setCell ⟨V, 2, none⟩ (.int .i64 rhi)).setCell ⟨V, 3, none⟩ (.string ⟨rf.toArray⟩)).setCell ⟨V, 4, none⟩ (.string ⟨rt.toArray⟩)).setCell ⟨V, 5, none⟩ (.bool ro)).setCell ⟨V, 6, none⟩ (.slice A7 n7 c7)) w.heap.size (.slice A7 n7 c7) rno) := own_far7 (ho7.less (by omega)) hBV7 _ _ _ _ _ _ _
    have hB7 : Below w.heap.size w (((((((w6.setCell ⟨V, 0, none⟩ (.int .i64 rK)).setCell ⟨V, 1, none⟩ (.int .i64 rlo)).setCell ⟨V, 2, none⟩ (.int .i64 rhi)).setCell ⟨V, 3, none⟩ (.string ⟨rf.toArray⟩)).setCell ⟨V, 4, none⟩ (.string ⟨rt.toArray⟩)).setCell ⟨V, 5, none⟩ (.bool ro)).setCell ⟨V, 6, none⟩ (.slice A7 n7 c7)) := below_put7 hB6 (by omega) _ _ _ _ _ _ _
    have hS3 := HK.out (((((((w6.setCell ⟨V, 0, none⟩ (.int .i64 rK)).setCell ⟨V, 1, none⟩ (.int .i64 rlo)).setCell ⟨V, 2, none⟩ (.int .i64 rhi)).setCell ⟨V, 3, none⟩ (.string ⟨rf.toArray⟩)).setCell ⟨V, 4, none⟩ (.string ⟨rt.toArray⟩)).setCell ⟨V, 5, none⟩ (.bool ro)).setCell ⟨V, 6, none⟩ (.slice A7 n7 c7)) hB7
    have HB7 := Lib.hid hB7
    have HBG7 : Hid (∀ a, A7 = some a -> w.heap.size < a.block) := fun a ha => by have := hA7 a ha; omega
    have HBV7 := Lib.hid hBV7
    have HI7 : Hid (IsAll (l.take (k + 1)) ⟨rK, rlo, rhi, rf, rt, ro, rno⟩) := by
     show IsAll _ _
     rw [List.take_succ_eq_append_getElem hk', HX.out]
     exact all_snoc HI.out hof him
    have HM7 := Lib.hid hl7
    have hnk : n7 <= k + 1 := by have := HM.out; omega
    refine hKa.out _ _ hS3 ?_
    clear hKa Ka z0 z1 z2 z3 z4 z5 z6 y0 y1 y2 y3 y4 y5 y6 hlV hV6 hY6 ho7 hB7 hBV7 hS0 hS1 hS2 hS3 hA7 hl7 hof him ho5 hl5
    refine wpAnyH_done (by kernel_rfl) ?_ _
    generalize (((((((w6.setCell ⟨V, 0, none⟩ (.int .i64 rK)).setCell ⟨V, 1, none⟩ (.int .i64 rlo)).setCell ⟨V, 2, none⟩ (.int .i64 rhi)).setCell ⟨V, 3, none⟩ (.string ⟨rf.toArray⟩)).setCell ⟨V, 4, none⟩ (.string ⟨rt.toArray⟩)).setCell ⟨V, 5, none⟩ (.bool ro)).setCell ⟨V, 6, none⟩ (.slice A7 n7 c7)) = w7 at *
    go_wp2_with fail
    go_roundg (n - (k + 1))
    case measure => omega
    case rel => exact ⟨k + 1, rK, rlo, rhi, rf, rt, ro, rno, A7, n7, c7, by omega, Nat.le_refl _, by go_num, hnk, hc7, HM7, HI7, HV7, HY7, HO7, HBV7, HBG7, HB7⟩
   ·have hS0' := hS0
    obtain ⟨s0, s1, s2, s3, s4⟩ := hS0'
    go_simp
    refine hKa.out _ _ hS0 ?_
    clear hKa Ka s0 s1 s2 s3 s4
    refine wpAnyH_pair (i := 0) (j := 5) (by kernel_rfl) rfl rfl (by rfl) (by rfl) (fun Ka hKa => ?_) (fun Ka hKa => ?_)
    ·go_simp
     refine hKa.out _ _ hS0 ?_
     clear hKa Ka
     clear z0 z1 z2 z3 z4 z5 z6 y0 y1 y2 y3 y4 y5 y6 hlV
     have hV3 : Blk wr.drew V 29 #[.int .i64 K, .int .i64 lo, .int .i64 hi, .string ⟨f.toArray⟩, .string ⟨t.toArray⟩, .bool o, .slice B m d] := HV.out
     have hY3 : Blk wr.drew w.heap.size 29 #[.int .i64 0, .int .i64 0, .int .i64 0, .string ⟨#[]⟩, .string ⟨#[]⟩, .bool false, .slice none 0 0] := HY.out
     have hO3 : OwnW wr.drew w.heap.size (.slice B m d) es := OwnK.below HO.out (Below.refl _ _).drew
     have hB3 := HB.out.drew
     clear HV HY HO HB
     generalize wr.drew = w4 at *
     refine wpAnyH_one (i := 5) (by kernel_rfl) rfl (by rfl) (fun Ka hKa => ?_)
     go_simp
     with_reducible refine (of_at ⟨xn, xo, xk, xi, xt⟩ w4 (by show xn.length <= _; omega) (by show xt.length <= _; omega) hp3 hp4).mono ?_
     rintro e w5 ⟨⟨uK, ulo, uhi, uf, ut, uo, uno⟩, hof, hul, A5, n5, c5, rfl, hl5, hc5, ho5, hb5⟩
     dsimp only at hul hl5 ho5
     have hB5 := below_next hB3 (by have := hB3.size; omega) hb5
     have hS1 := HK.out w5 hB5
     have hV5 := Blk.below hV3 hb5 hV3.lt
     have hY5 := Blk.below hY3 hb5 hY3.lt
     have hO5 := OwnK.below hO3 hb5
     go_wp2_with fail
     refine hKa.out _ _ hS1 ?_
     clear hKa Ka hV3 hY3 hO3 hB3 hb5
     refine wpAnyH_one (i := 6) (by kernel_rfl) rfl (by rfl) (fun Ka hKa => ?_)
     go_simp
     have hcA : Canon ⟨K, lo, hi, f, t, o, es⟩ := HI.out.1
     have hcB : Canon ⟨uK, ulo, uhi, uf, ut, uo, uno⟩ := hof.1
     have hrA := Gives.rd hO5
     have hrB := Gives.rd ho5
     with_reducible refine (meet_at ⟨K, lo, hi, f, t, o, es⟩ ⟨uK, ulo, uhi, uf, ut, uo, uno⟩ hcA hcB B m d A5 n5 c5 w5 HM.out (by omega) hl5 (by omega) hrA hrB).mono ?_
     rintro e w6 ⟨⟨rK, rlo, rhi, rf, rt, ro, rno⟩, him, hrl, A7, n7, c7, rfl, hl7, hc7, ho7, hb7⟩
     dsimp only at hrl hl7 ho7
     have hB6 := below_next hB5 (Nat.le_refl _) hb7
     have hS2 := HK.out w6 hB6
     have hV6 := Blk.below hV5 hb7 hV5.lt
     have hY6 := Blk.below hY5 hb7 hY5.lt
     have hA7 := fun a ha => (own_addr ho7 a ha).1
     have hV5l := hV5.lt
     have hY5l := hY5.lt
     go_wp2_with fail
     refine hKa.out _ _ hS2 ?_
     clear hKa Ka hV5 hY5 hO5 hB5
     refine wpAnyH_one (i := 7) (by kernel_rfl) rfl (by rfl) (fun Ka hKa => ?_)
     obtain ⟨z0, z1, z2, z3, z4, z5, z6, y0, y1, y2, y3, y4, y5, y6⟩ := blk7 hV6
     have hlV := hV6.lt
     go_simp
     have HV7 : Hid (Blk (((((((w6.setCell ⟨V, 0, none⟩ (.int .i64 rK)).setCell ⟨V, 1, none⟩ (.int .i64 rlo)).setCell ⟨V, 2, none⟩ (.int .i64 rhi)).setCell ⟨V, 3, none⟩ (.string ⟨rf.toArray⟩)).setCell ⟨V, 4, none⟩ (.string ⟨rt.toArray⟩)).setCell ⟨V, 5, none⟩ (.bool ro)).setCell ⟨V, 6, none⟩ (.slice A7 n7 c7)) V 29 #[.int .i64 rK, .int .i64 rlo, .int .i64 rhi, .string ⟨rf.toArray⟩, .string ⟨rt.toArray⟩, .bool ro, .slice A7 n7 c7]) := Blk.put7 hV6 _ _ _ _ _ _ _
     have HY7 : Hid (Blk (((((((w6.setCell ⟨V, 0, none⟩ (.int .i64 rK)).setCell ⟨V, 1, none⟩ (.int .i64 rlo)).setCell ⟨V, 2, none⟩ (.int .i64 rhi)).setCell ⟨V, 3, none⟩ (.string ⟨rf.toArray⟩)).setCell ⟨V, 4, none⟩ (.string ⟨rt.toArray⟩)).setCell ⟨V, 5, none⟩ (.bool ro)).setCell ⟨V, 6, none⟩ (.slice A7 n7 c7)) w.heap.size 29 #[.int .i64 0, .int .i64 0, .int .i64 0, .string ⟨#[]⟩, .string ⟨#[]⟩, .bool false, .slice none 0 0]) := Blk.far7 hY6 (by omega) _ _ _ _ _ _ _
     have hBV7 : ∀ a, A7 = some a -> a.block ≠ V := fun a ha => by have := hA7 a ha; omega
     have HO7 : Hid (OwnW (((((((w6.setCell ⟨V, 0, none⟩ (.int .i64 rK)).setCell ⟨V, 1, none⟩ (.int .i64 rlo)).setCell ⟨V, 2, none⟩ (.int .i64 rhi)).setCell ⟨V, 3, none⟩ (.string ⟨rf.toArray⟩)).setCell ⟨V, 4, none⟩ (.string ⟨rt.toArray⟩)).setCell ⟨V, 5, none⟩ (.bool ro)).setCell ⟨V, 6, none⟩ (.slice A7 n7 c7)) w.heap.size (.slice A7 n7 c7) rno) := own_far7 (ho7.less (by omega)) hBV7 _ _ _ _ _ _ _
     have hB7 : Below w.heap.size w (((((((w6.setCell ⟨V, 0, none⟩ (.int .i64 rK)).setCell ⟨V, 1, none⟩ (.int .i64 rlo)).setCell ⟨V, 2, none⟩ (.int .i64 rhi)).setCell ⟨V, 3, none⟩ (.string ⟨rf.toArray⟩)).setCell ⟨V, 4, none⟩ (.string ⟨rt.toArray⟩)).setCell ⟨V, 5, none⟩ (.bool ro)).setCell ⟨V, 6, none⟩ (.slice A7 n7 c7)) := below_put7 hB6 (by omega) _ _ _ _ _ _ _
     have hS3 := HK.out (((((((w6.setCell ⟨V, 0, none⟩ (.int .i64 rK)).setCell ⟨V, 1, none⟩ (.int .i64 rlo)).setCell ⟨V, 2, none⟩ (.int .i64 rhi)).setCell ⟨V, 3, none⟩ (.string ⟨rf.toArray⟩)).setCell ⟨V, 4, none⟩ (.string ⟨rt.toArray⟩)).setCell ⟨V, 5, none⟩ (.bool ro)).setCell ⟨V, 6, none⟩ (.slice A7 n7 c7)) hB7
     have HB7 := Lib.hid hB7
     have HBG7 : Hid (∀ a, A7 = some a -> w.heap.size < a.block) := fun a ha => by have := hA7 a ha; omega
     have HBV7 := Lib.hid hBV7
     have HI7 : Hid (IsAll (l.take (k + 1)) ⟨rK, rlo, rhi, rf, rt, ro, rno⟩) := by
      show IsAll _ _
      rw [List.take_succ_eq_append_getElem hk', HX.out]
      exact all_snoc HI.out hof him
     have HM7 := Lib.hid hl7
     have hnk : n7 <= k + 1 := by have := HM.out; omega
     refine hKa.out _ _ hS3 ?_
     clear hKa Ka z0 z1 z2 z3 z4 z5 z6 y0 y1 y2 y3 y4 y5 y6 hlV hV6 hY6 ho7 hB7 hBV7 hS0 hS1 hS2 hS3 hA7 hl7 hof him ho5 hl5
     refine wpAnyH_done (by kernel_rfl) ?_ _
     generalize (((((((w6.setCell ⟨V, 0, none⟩ (.int .i64 rK)).setCell ⟨V, 1, none⟩ (.int .i64 rlo)).setCell ⟨V, 2, none⟩ (.int .i64 rhi)).setCell ⟨V, 3, none⟩ (.string ⟨rf.toArray⟩)).setCell ⟨V, 4, none⟩ (.string ⟨rt.toArray⟩)).setCell ⟨V, 5, none⟩ (.bool ro)).setCell ⟨V, 6, none⟩ (.slice A7 n7 c7)) = w7 at *
     go_wp2_with fail
     go_roundg (n - (k + 1))
     case measure => omega
     case rel => exact ⟨k + 1, rK, rlo, rhi, rf, rt, ro, rno, A7, n7, c7, by omega, Nat.le_refl _, by go_num, hnk, hc7, HM7, HI7, HV7, HY7, HO7, HBV7, HBG7, HB7⟩
    ·skip
     clear z0 z1 z2 z3 z4 z5 z6 y0 y1 y2 y3 y4 y5 y6 hlV
     have hV3 : Blk wr.drew V 29 #[.int .i64 K, .int .i64 lo, .int .i64 hi, .string ⟨f.toArray⟩, .string ⟨t.toArray⟩, .bool o, .slice B m d] := HV.out
     have hY3 : Blk wr.drew w.heap.size 29 #[.int .i64 0, .int .i64 0, .int .i64 0, .string ⟨#[]⟩, .string ⟨#[]⟩, .bool false, .slice none 0 0] := HY.out
     have hO3 : OwnW wr.drew w.heap.size (.slice B m d) es := OwnK.below HO.out (Below.refl _ _).drew
     have hB3 := HB.out.drew
     clear HV HY HO HB
     generalize wr.drew = w4 at *
     go_simp
     with_reducible refine (of_at ⟨xn, xo, xk, xi, xt⟩ w4 (by show xn.length <= _; omega) (by show xt.length <= _; omega) hp3 hp4).mono ?_
     rintro e w5 ⟨⟨uK, ulo, uhi, uf, ut, uo, uno⟩, hof, hul, A5, n5, c5, rfl, hl5, hc5, ho5, hb5⟩
     dsimp only at hul hl5 ho5
     have hB5 := below_next hB3 (by have := hB3.size; omega) hb5
     have hS1 := HK.out w5 hB5
     have hV5 := Blk.below hV3 hb5 hV3.lt
     have hY5 := Blk.below hY3 hb5 hY3.lt
     have hO5 := OwnK.below hO3 hb5
     go_wp2_with fail
     refine hKa.out _ _ hS1 ?_
     clear hKa Ka hV3 hY3 hO3 hB3 hb5
     obtain ⟨z0, z1, z2, z3, z4, z5, z6, y0, y1, y2, y3, y4, y5, y6⟩ := blk7 hV5
     have hlV := hV5.lt
     refine wpAnyH_one (i := 0) (by kernel_rfl) rfl (by rfl) (fun Ka hKa => ?_)
     go_simp
     refine hKa.out _ _ hS1 ?_
     clear hKa Ka z0 z1 z2 z3 z4 z5 z6 y0 y1 y2 y3 y4 y5 y6 hlV
     refine wpAnyH_one (i := 6) (by kernel_rfl) rfl (by rfl) (fun Ka hKa => ?_)
     go_simp
     have hcA : Canon ⟨K, lo, hi, f, t, o, es⟩ := HI.out.1
     have hcB : Canon ⟨uK, ulo, uhi, uf, ut, uo, uno⟩ := hof.1
     have hrA := Gives.rd hO5
     have hrB := Gives.rd ho5
     with_reducible refine (meet_at ⟨K, lo, hi, f, t, o, es⟩ ⟨uK, ulo, uhi, uf, ut, uo, uno⟩ hcA hcB B m d A5 n5 c5 w5 HM.out (by omega) hl5 (by omega) hrA hrB).mono ?_
     rintro e w6 ⟨⟨rK, rlo, rhi, rf, rt, ro, rno⟩, him, hrl, A7, n7, c7, rfl, hl7, hc7, ho7, hb7⟩
     dsimp only at hrl hl7 ho7
     have hB6 := below_next hB5 (Nat.le_refl _) hb7
     have hS2 := HK.out w6 hB6
     have hV6 := Blk.below hV5 hb7 hV5.lt
     have hY6 := Blk.below hY5 hb7 hY5.lt
     have hA7 := fun a ha => (own_addr ho7 a ha).1
     have hV5l := hV5.lt
     have hY5l := hY5.lt
     go_wp2_with fail
     refine hKa.out _ _ hS2 ?_
     clear hKa Ka hV5 hY5 hO5 hB5
     refine wpAnyH_one (i := 7) (by kernel_rfl) rfl (by rfl) (fun Ka hKa => ?_)
     obtain ⟨z0, z1, z2, z3, z4, z5, z6, y0, y1, y2, y3, y4, y5, y6⟩ := blk7 hV6
     have hlV := hV6.lt
     go_simp
     have HV7 : Hid (Blk (((((((w6.setCell ⟨V, 0, none⟩ (.int .i64 rK)).setCell ⟨V, 1, none⟩ (.int .i64 rlo)).setCell ⟨V, 2, none⟩ (.int .i64 rhi)).setCell ⟨V, 3, none⟩ (.string ⟨rf.toArray⟩)).setCell ⟨V, 4, none⟩ (.string ⟨rt.toArray⟩)).setCell ⟨V, 5, none⟩ (.bool ro)).setCell ⟨V, 6, none⟩ (.slice A7 n7 c7)) V 29 #[.int .i64 rK, .int .i64 rlo, .int .i64 rhi, .string ⟨rf.toArray⟩, .string ⟨rt.toArray⟩, .bool ro, .slice A7 n7 c7]) := Blk.put7 hV6 _ _ _ _ _ _ _
     have HY7 : Hid (Blk (((((((w6.setCell ⟨V, 0, none⟩ (.int .i64 rK)).setCell ⟨V, 1, none⟩ (.int .i64 rlo)).setCell ⟨V, 2, none⟩ (.int .i64 rhi)).setCell ⟨V, 3, none⟩ (.string ⟨rf.toArray⟩)).setCell ⟨V, 4, none⟩ (.string ⟨rt.toArray⟩)).setCell ⟨V, 5, none⟩ (.bool ro)).setCell ⟨V, 6, none⟩ (.slice A7 n7 c7)) w.heap.size 29 #[.int .i64 0, .int .i64 0, .int .i64 0, .string ⟨#[]⟩, .string ⟨#[]⟩, .bool false, .slice none 0 0]) := Blk.far7 hY6 (by omega) _ _ _ _ _ _ _
     have hBV7 : ∀ a, A7 = some a -> a.block ≠ V := fun a ha => by have := hA7 a ha; omega
     have HO7 : Hid (OwnW (((((((w6.setCell ⟨V, 0, none⟩ (.int .i64 rK)).setCell ⟨V, 1, none⟩ (.int .i64 rlo)).setCell ⟨V, 2, none⟩ (.int .i64 rhi)).setCell ⟨V, 3, none⟩ (.string ⟨rf.toArray⟩)).setCell ⟨V, 4, none⟩ (.string ⟨rt.toArray⟩)).setCell ⟨V, 5, none⟩ (.bool ro)).setCell ⟨V, 6, none⟩ (.slice A7 n7 c7)) w.heap.size (.slice A7 n7 c7) rno) := own_far7 (ho7.less (by omega)) hBV7 _ _ _ _ _ _ _
     have hB7 : Below w.heap.size w (((((((w6.setCell ⟨V, 0, none⟩ (.int .i64 rK)).setCell ⟨V, 1, none⟩ (.int .i64 rlo)).setCell ⟨V, 2, none⟩ (.int .i64 rhi)).setCell ⟨V, 3, none⟩ (.string ⟨rf.toArray⟩)).setCell ⟨V, 4, none⟩ (.string ⟨rt.toArray⟩)).setCell ⟨V, 5, none⟩ (.bool ro)).setCell ⟨V, 6, none⟩ (.slice A7 n7 c7)) := below_put7 hB6 (by omega) _ _ _ _ _ _ _
     have hS3 := HK.out (((((((w6.setCell ⟨V, 0, none⟩ (.int .i64 rK)).setCell ⟨V, 1, none⟩ (.int .i64 rlo)).setCell ⟨V, 2, none⟩ (.int .i64 rhi)).setCell ⟨V, 3, none⟩ (.string ⟨rf.toArray⟩)).setCell ⟨V, 4, none⟩ (.string ⟨rt.toArray⟩)).setCell ⟨V, 5, none⟩ (.bool ro)).setCell ⟨V, 6, none⟩ (.slice A7 n7 c7)) hB7
     have HB7 := Lib.hid hB7
     have HBG7 : Hid (∀ a, A7 = some a -> w.heap.size < a.block) := fun a ha => by have := hA7 a ha; omega
     have HBV7 := Lib.hid hBV7
     have HI7 : Hid (IsAll (l.take (k + 1)) ⟨rK, rlo, rhi, rf, rt, ro, rno⟩) := by
      show IsAll _ _
      rw [List.take_succ_eq_append_getElem hk', HX.out]
      exact all_snoc HI.out hof him
     have HM7 := Lib.hid hl7
     have hnk : n7 <= k + 1 := by have := HM.out; omega
     refine hKa.out _ _ hS3 ?_
     clear hKa Ka z0 z1 z2 z3 z4 z5 z6 y0 y1 y2 y3 y4 y5 y6 hlV hV6 hY6 ho7 hB7 hBV7 hS0 hS1 hS2 hS3 hA7 hl7 hof him ho5 hl5
     refine wpAnyH_done (by kernel_rfl) ?_ _
     generalize (((((((w6.setCell ⟨V, 0, none⟩ (.int .i64 rK)).setCell ⟨V, 1, none⟩ (.int .i64 rlo)).setCell ⟨V, 2, none⟩ (.int .i64 rhi)).setCell ⟨V, 3, none⟩ (.string ⟨rf.toArray⟩)).setCell ⟨V, 4, none⟩ (.string ⟨rt.toArray⟩)).setCell ⟨V, 5, none⟩ (.bool ro)).setCell ⟨V, 6, none⟩ (.slice A7 n7 c7)) = w7 at *
     go_wp2_with fail
     go_roundg (n - (k + 1))
     case measure => omega
     case rel => exact ⟨k + 1, rK, rlo, rhi, rf, rt, ro, rno, A7, n7, c7, by omega, Nat.le_refl _, by go_num, hnk, hc7, HM7, HI7, HV7, HY7, HO7, HBV7, HBG7, HB7⟩
  ·have hkn : Hid (k = n) := by show k = n; omega
   obtain ⟨u0, u1, u2, u3, u4, u5, u6, q0, q1, q2, q3, q4, q5, q6⟩ := blk7 HY.out
   have hlY := HY.out.lt
   have hne1 : ¬ V = w.heap.size := by omega
   go_wp2_with fail
   refine bodyPost_ret (v := spF K lo hi f t o B m d) (by simp [results, Try.results6, go_sem, u0, u1, u2, u3, u4, u5, u6]) rfl ?_
   have hI := HI.out
   rw [hkn.out, List.take_of_length_le (by rw [HN.out]; exact Nat.le_refl _)] at hI
   exact ⟨⟨K, lo, hi, f, t, o, es⟩, hI, by show es.length <= _; have := HM.out; have := HN.out; have := hkn.out; omega, B, m, d, rfl, HM.out, hmd, own_far7 HO.out (fun a ha => Nat.ne_of_gt (HBG.out a ha)) _ _ _ _ _ _ _, below_put7 HB.out (Nat.le_refl _) _ _ _ _ _ _ _⟩
end Go.Proofs.Ytoffnfooeojhnaa
namespace Go.Proofs.Ytoffnfooeojhnaa
open Go.RowKit Go.Sort Spans Op
theorem own_litK {α : Type} (L : Lay α) (w : World) (base : Nat) (hb : base <= w.heap.size) (a : α) {cs : Array Value} (h : cs = (L.enc a).toArray) : OwnK L (w.alloc (.cells cs L.T)) base (.slice (some ⟨w.heap.size, 0, none⟩) 1 1) [a] := by
 subst h
 refine ⟨flatL_length [a], .inr ⟨w.heap.size, 1, _, rfl, hb, heap_alloc_new _ _, Nat.le_refl _, by rw [maxLen_num]; omega, ?_, ?_⟩⟩
 ·simp [L.len]
 ·simp
  exact List.take_of_length_le (by rw [L.len]; exact Nat.le_refl _)
theorem ext_last (u : List UInt8) (x : UInt8) : (⟨(u ++ [x]).toArray⟩ : ByteArray).extract u.length (u.length + 1) = ⟨#[x]⟩ := by
 apply ByteArray.ext
 simp [ByteArray.data_extract]
theorem ext_init (u : List UInt8) (x : UInt8) : (⟨(u ++ [x]).toArray⟩ : ByteArray).extract 0 u.length = ⟨u.toArray⟩ := by
 apply ByteArray.ext
 simp [ByteArray.data_extract]
set_option maxRecDepth 100000 in
theorem suffix_last (u : List UInt8) (x : UInt8) (hu : u.length <= 1000) (w : World) (b : Bool) (hb : decide (x = 0) = b) : Calls Try.prog 92 #[.string ⟨(u ++ [x]).toArray⟩, .string ⟨#[0]⟩] w fun e w' => e = .returned (.bool b) /\ w' = w := by
 have h1 := ext_last u x
 have h2 : (⟨(u ++ [x]).toArray⟩ : ByteArray).size = u.length + 1 := by simp [ByteArray.size]
 go_enter Try.func92, Try.ntmps92
 go_wp2_with fail
 all_goals (go_ret; refine ⟨ret_b ?_, rfl⟩)
 all_goals (rw [<- hb]; by_cases hx0 : x = 0 <;> simp_all)
set_option maxRecDepth 100000 in
theorem suffix_nil (w : World) : Calls Try.prog 92 #[.string ⟨#[]⟩, .string ⟨#[0]⟩] w fun e w' => e = .returned (.bool false) /\ w' = w := by
 go_enter Try.func92, Try.ntmps92
 go_wp2_with fail
 go_ret
 exact ⟨rfl, rfl⟩
/-- What CutSuffix of a byte 0 tells. -/
def cutZ (s : List UInt8) : List UInt8 := (zeroEnd s).getD s
set_option maxRecDepth 100000 in
theorem cut1_at (s : List UInt8) (hs : s.length <= 1000) (w : World) : Calls Try.prog 90 #[.string ⟨s.toArray⟩, .string ⟨#[0]⟩] w fun e w' => e = .returned (.tuple #[.string ⟨(cutZ s).toArray⟩, .bool (zeroEnd s).isSome]) /\ w' = w := by
 rcases List.eq_nil_or_concat s with rfl | ⟨u, x, rfl⟩
 ·go_enter Try.func90, Try.ntmps90
  go_wp2_with fail
  refine (suffix_nil w).mono ?_
  rintro e w' ⟨rfl, rfl⟩
  go_wp2_with fail
  go_ret2
  exact ⟨rfl, rfl⟩
 ·have hu : u.length <= 1000 := by simp at hs; omega
  rw [List.concat_eq_append]
  clear hs
  by_cases hx : x = 0
  ·subst hx
   have HZ : Hid (zeroEnd (u ++ [0]) = some u) := (zeroEnd_iff _ _).2 rfl
   have h1 := ext_init u 0
   have h2 : (⟨(u ++ [0]).toArray⟩ : ByteArray).size = u.length + 1 := by simp [ByteArray.size]
   go_enter Try.func90, Try.ntmps90
   go_wp2_with fail
   refine (suffix_last u 0 hu w true rfl).mono ?_
   rintro e w' ⟨rfl, rfl⟩
   go_wp2_with fail
   go_ret2
   refine ⟨?_, rfl⟩
   rw [show cutZ (u ++ [0]) = u by unfold cutZ; rw [HZ.out]; rfl, HZ.out]
   rfl
  ·have HZ : Hid (zeroEnd (u ++ [x]) = none) := by
    show zeroEnd (u ++ [x]) = none
    cases hz : zeroEnd (u ++ [x]) with
    | none => rfl
    | some v =>
     have := (zeroEnd_iff _ _).1 hz
     have := List.append_inj_right' this rfl
     simp at this
     exact absurd this hx
   go_enter Try.func90, Try.ntmps90
   go_wp2_with fail
   refine (suffix_last u x hu w false (decide_eq_false hx)).mono ?_
   rintro e w' ⟨rfl, rfl⟩
   go_wp2_with fail
   go_ret2
   refine ⟨?_, rfl⟩
   rw [show cutZ (u ++ [x]) = u ++ [x] by unfold cutZ; rw [HZ.out]; rfl, HZ.out]
   rfl
set_option maxRecDepth 100000 in
theorem cut_at (s : List UInt8) (hs : s.length <= 1000) (w : World) : Calls Try.prog 84 #[.string ⟨s.toArray⟩, .string ⟨#[0]⟩] w fun e w' => e = .returned (.tuple #[.string ⟨(cutZ s).toArray⟩, .bool (zeroEnd s).isSome]) /\ w' = w := by
 go_enter Try.func84, Try.ntmps84
 go_wp2_with fail
 refine (cut1_at s hs w).mono ?_
 rintro e w' ⟨rfl, rfl⟩
 go_wp2_with fail
 go_ret2
 exact ⟨rfl, rfl⟩
/-- The predicate of a text's end. -/
def teP (n e : List UInt8) (plain cut : Int) : Pr := ⟨n, if (zeroEnd e).isSome then cut else plain, 2, 0, cutZ e⟩
theorem cut_is (s : List UInt8) (hs : s.length <= 1000) (z : Bool) (hz : (zeroEnd s).isSome = z) (c : List UInt8) (hc : cutZ s = c) (w : World) : Calls Try.prog 84 #[.string ⟨s.toArray⟩, .string ⟨#[0]⟩] w fun e w' => e = .returned (.tuple #[.string ⟨c.toArray⟩, .bool z]) /\ w' = w := by
 subst hz; subst hc; exact cut_at s hs w
set_option maxRecDepth 100000 in
theorem textEnd_is (n e : List UInt8) (plain cut : Int) (he : e.length <= 1000) (z : Bool) (hz : (zeroEnd e).isSome = z) (c : List UInt8) (hc : cutZ e = c) (hp : z = false -> e = c) (w : World) : Calls Try.prog 70 #[.string ⟨n.toArray⟩, .string ⟨e.toArray⟩, .int .i64 plain, .int .i64 cut] w fun r w' => r = .returned (.agg #[.string ⟨n.toArray⟩, .int .i64 (if z then cut else plain), .int .i64 2, .int .i64 0, .string ⟨c.toArray⟩]) /\ Below w.heap.size w w' := by
 have HZ := Lib.hid hz
 have HC := Lib.hid hc
 have hY := Blk.new w 38 #[.string ⟨#[]⟩, .int .i64 0, .int .i64 0, .int .i64 0, .string ⟨#[]⟩]
 have hg := gr1 w (.cells #[.string ⟨#[]⟩, .int .i64 0, .int .i64 0, .int .i64 0, .string ⟨#[]⟩] 38)
 clear hz hc
 cases z with
 | false =>
  have hp := hp rfl
  subst hp
  go_enter Try.func70, Try.ntmps70
  go_wp2_with fail
  generalize w.alloc (.cells #[.string ⟨#[]⟩, .int .i64 0, .int .i64 0, .int .i64 0, .string ⟨#[]⟩] 38) = w0 at *
  refine (cut_is e he false HZ.out e HC.out w0).mono ?_
  rintro r w' ⟨rfl, rfl⟩
  obtain ⟨y0, y1, y2, y3, y4, q0, q1, q2, q3, q4⟩ := blk5 hY
  have hl := hY.lt
  go_wp2_with fail
  refine bodyPost_ret (v := .agg #[.string ⟨n.toArray⟩, .int .i64 plain, .int .i64 2, .int .i64 0, .string ⟨e.toArray⟩]) (by simp [results, Try.results70, go_sem, y0, y1, y2, y3, y4]) rfl ?_
  exact ⟨rfl, below_set (below_set (below_set (below_set (below_set hg.below (Nat.le_refl _)) (Nat.le_refl _)) (Nat.le_refl _)) (Nat.le_refl _)) (Nat.le_refl _)⟩
 | true =>
  clear hp
  go_enter Try.func70, Try.ntmps70
  go_wp2_with fail
  generalize w.alloc (.cells #[.string ⟨#[]⟩, .int .i64 0, .int .i64 0, .int .i64 0, .string ⟨#[]⟩] 38) = w0 at *
  refine (cut_is e he true HZ.out c HC.out w0).mono ?_
  rintro r w' ⟨rfl, rfl⟩
  obtain ⟨y0, y1, y2, y3, y4, q0, q1, q2, q3, q4⟩ := blk5 hY
  have hl := hY.lt
  go_wp2_with fail
  refine bodyPost_ret (v := .agg #[.string ⟨n.toArray⟩, .int .i64 cut, .int .i64 2, .int .i64 0, .string ⟨c.toArray⟩]) (by simp [results, Try.results70, go_sem, y0, y1, y2, y3, y4]) rfl ?_
  exact ⟨rfl, below_set (below_set (below_set (below_set (below_set hg.below (Nat.le_refl _)) (Nat.le_refl _)) (Nat.le_refl _)) (Nat.le_refl _)) (Nat.le_refl _)⟩
/-- The predicate of a text's end, with its parts at hand. -/
theorem textEnd_at (n e : List UInt8) (plain cut : Int) (he : e.length <= 1000) (q : Pr) (hq : teP n e plain cut = q) (w : World) : Calls Try.prog 70 #[.string ⟨n.toArray⟩, .string ⟨e.toArray⟩, .int .i64 plain, .int .i64 cut] w fun r w' => r = .returned (.agg #[.string ⟨q.n.toArray⟩, .int .i64 q.o, .int .i64 q.k, .int .i64 q.i, .string ⟨q.t.toArray⟩]) /\ Below w.heap.size w w' := by
 subst hq
 refine textEnd_is n e plain cut he _ rfl _ rfl (fun h => ?_) w
 unfold cutZ
 cases hz : zeroEnd e with
 | none => rfl
 | some u => rw [hz] at h; simp at h
/-- A row of predicates handed back, in new memory. -/
def GivesQ (w : World) (l : List Pr) (e : Ending) (w' : World) : Prop := ∃ v, e = .returned v /\ OwnQ w' w.heap.size v l /\ Below w.heap.size w w'
set_option maxRecDepth 100000 in
set_option maxHeartbeats 4000000 in
theorem textEnds_at (n f t : List UInt8) (o : Bool) (A : Option Addr) (m c : Nat) (hf : f.length <= 1000) (ht : t.length <= 1000) (w : World) (l1 l2 : List Pr) (hl1 : (if f = [] then [] else [teP n f 6 5]) = l1) (hl2 : (if o then [] else [teP n t 3 4]) = l2) :
  Calls Try.prog 58 #[.string ⟨n.toArray⟩, .agg #[.int .i64 2, .int .i64 0, .int .i64 0, .string ⟨f.toArray⟩, .string ⟨t.toArray⟩, .bool o, .slice A m c]] w (GivesQ w (l1 ++ l2)) := by
 obtain ⟨q1, hq1⟩ : ∃ q, teP n f 6 5 = q := ⟨_, rfl⟩
 obtain ⟨q2, hq2⟩ : ∃ q, teP n t 3 4 = q := ⟨_, rfl⟩
 rw [hq1] at hl1
 rw [hq2] at hl2
 have HQ1 := Lib.hid hq1
 have HQ2 := Lib.hid hq2
 have hX := (Blk.new w 29 #[.int .i64 2, .int .i64 0, .int .i64 0, .string ⟨f.toArray⟩, .string ⟨t.toArray⟩, .bool o, .slice A m c]).alloc (.cells #[] 38)
 have ho0 : OwnQ ((w.alloc (.cells #[.int .i64 2, .int .i64 0, .int .i64 0, .string ⟨f.toArray⟩, .string ⟨t.toArray⟩, .bool o, .slice A m c] 29)).alloc (.cells #[] 38)) (w.heap.size + 1) (.slice (some ⟨w.heap.size + 1, 0, none⟩) 0 0) [] := by
  have h := OwnK.empty (L := layP) (w.alloc (.cells #[.int .i64 2, .int .i64 0, .int .i64 0, .string ⟨f.toArray⟩, .string ⟨t.toArray⟩, .bool o, .slice A m c] 29)) (w.heap.size + 1) (by simp)
  rw [show (w.alloc (.cells #[.int .i64 2, .int .i64 0, .int .i64 0, .string ⟨f.toArray⟩, .string ⟨t.toArray⟩, .bool o, .slice A m c] 29)).heap.size = w.heap.size + 1 by simp] at h
  exact h
 have hW0 : Below w.heap.size w ((w.alloc (.cells #[.int .i64 2, .int .i64 0, .int .i64 0, .string ⟨f.toArray⟩, .string ⟨t.toArray⟩, .bool o, .slice A m c] 29)).alloc (.cells #[] 38)) := (gr2 w _ _).below
 have hs0 : ((w.alloc (.cells #[.int .i64 2, .int .i64 0, .int .i64 0, .string ⟨f.toArray⟩, .string ⟨t.toArray⟩, .bool o, .slice A m c] 29)).alloc (.cells #[] 38)).heap.size = w.heap.size + 2 := by simp
 obtain ⟨qn, qo, qk, qi, qt⟩ := q1
 obtain ⟨un, uo, uk, ui, ut⟩ := q2
 clear hq1 hq2
 by_cases hfe : f = []
 ·cases o with
  | true =>
   subst hfe
   rw [if_pos rfl] at hl1
   rw [if_pos rfl] at hl2
   subst hl1
   subst hl2
   go_enter Try.func58, Try.ntmps58
   go_wp2_with fail
   skip
   go_ret
   exact ⟨_, rfl, ho0.less (by omega), hW0⟩
  | false =>
   subst hfe
   rw [if_pos rfl] at hl1
   rw [if_neg (by simp)] at hl2
   subst hl1
   subst hl2
   go_enter Try.func58, Try.ntmps58
   go_wp2_with fail
   generalize ((w.alloc (.cells #[.int .i64 2, .int .i64 0, .int .i64 0, .string ⟨#[]⟩, .string ⟨t.toArray⟩, .bool false, .slice A m c] 29)).alloc (.cells #[] 38)) = w0 at *
   refine (textEnd_at n t 3 4 ht ⟨un, uo, uk, ui, ut⟩ HQ2.out w0).mono ?_
   rintro r w2a ⟨rfl, hb2⟩
   have hB2 : Below (w.heap.size + 1) w0 w2a := Below.trans (Below.refl _ _) (hb2.mono (by omega))
   have hX2 := Blk.below hX hB2 (by omega)
   have ho2 := OwnK.below ho0 hb2
   have hs2 : w.heap.size + 2 <= w2a.heap.size := by have := hB2.size; omega
   obtain ⟨a0, a1, a2, a3, a4, a5, a6, _⟩ := blk7 hX2
   have hl2 := hX2.lt
   go_wp2_with (at_builtin; refine wpList_append_k layP (by rfl) (.tmp 20) (.tmp 25) 22 underQ rfl (w.heap.size + 1) (.slice (some ⟨w.heap.size + 1, 0, none⟩) 0 0) [] (by rfl) (OwnK.below ho2 ((Below.refl _ _).alloc (Nat.le_refl _) _)) _ [⟨un, uo, uk, ui, ut⟩] 1 1 (by rfl) (rdk_one layP w2a ⟨un, uo, uk, ui, ut⟩ 38 _ rfl) rfl (by rw [maxLen_num]; simp; try omega) (by show _ * 56 <= _; simp; try omega) (by simp; omega) ?_; intro v2 w2 oo2 bb2 _ _; have hBB2 := bb2 w0 (Below.alloc hB2 (by omega) _); clear bb2 a0 a1 a2 a3 a4 a5 a6; have hX2b := Blk.below hX hBB2 (by omega); obtain ⟨a0, a1, a2, a3, a4, a5, a6, _⟩ := blk7 hX2b; have hl2b := hX2b.lt)
   go_ret
   exact ⟨_, rfl, by have h := oo2.less (show w.heap.size <= w.heap.size + 1 by omega); simpa using h, hW0.trans (hBB2.mono (by omega))⟩
 ·cases o with
  | true =>
   have vf : (f == []) = false := beq_eq_false_iff_ne.2 hfe
   rw [if_neg hfe] at hl1
   rw [if_pos rfl] at hl2
   subst hl1
   subst hl2
   go_enter Try.func58, Try.ntmps58
   go_wp2_with fail
   generalize ((w.alloc (.cells #[.int .i64 2, .int .i64 0, .int .i64 0, .string ⟨f.toArray⟩, .string ⟨t.toArray⟩, .bool true, .slice A m c] 29)).alloc (.cells #[] 38)) = w0 at *
   refine (textEnd_at n f 6 5 hf ⟨qn, qo, qk, qi, qt⟩ HQ1.out w0).mono ?_
   rintro r w1a ⟨rfl, hb1⟩
   have hB1 : Below (w.heap.size + 1) w0 w1a := Below.trans (Below.refl _ _) (hb1.mono (by omega))
   have hX1 := Blk.below hX hB1 (by omega)
   have ho1 := OwnK.below ho0 hb1
   have hs1 : w.heap.size + 2 <= w1a.heap.size := by have := hB1.size; omega
   obtain ⟨a0, a1, a2, a3, a4, a5, a6, _⟩ := blk7 hX1
   have hl1 := hX1.lt
   go_wp2_with (at_builtin; refine wpList_append_k layP (by rfl) (.tmp 10) (.tmp 15) 22 underQ rfl (w.heap.size + 1) (.slice (some ⟨w.heap.size + 1, 0, none⟩) 0 0) [] (by rfl) (OwnK.below ho1 ((Below.refl _ _).alloc (Nat.le_refl _) _)) _ [⟨qn, qo, qk, qi, qt⟩] 1 1 (by rfl) (rdk_one layP w1a ⟨qn, qo, qk, qi, qt⟩ 38 _ rfl) rfl (by rw [maxLen_num]; simp; try omega) (by show _ * 56 <= _; simp; try omega) (by simp; omega) ?_; intro v1 w1 oo1 bb1 _ _; have hBB1 := bb1 w0 (Below.alloc hB1 (by omega) _); clear bb1 a0 a1 a2 a3 a4 a5 a6; have hX1b := Blk.below hX hBB1 (by omega); obtain ⟨a0, a1, a2, a3, a4, a5, a6, _⟩ := blk7 hX1b; have hl1b := hX1b.lt)
   go_ret
   exact ⟨_, rfl, by have h := oo1.less (show w.heap.size <= w.heap.size + 1 by omega); simpa using h, hW0.trans (hBB1.mono (by omega))⟩
  | false =>
   have vf : (f == []) = false := beq_eq_false_iff_ne.2 hfe
   rw [if_neg hfe] at hl1
   rw [if_neg (by simp)] at hl2
   subst hl1
   subst hl2
   go_enter Try.func58, Try.ntmps58
   go_wp2_with fail
   generalize ((w.alloc (.cells #[.int .i64 2, .int .i64 0, .int .i64 0, .string ⟨f.toArray⟩, .string ⟨t.toArray⟩, .bool false, .slice A m c] 29)).alloc (.cells #[] 38)) = w0 at *
   refine (textEnd_at n f 6 5 hf ⟨qn, qo, qk, qi, qt⟩ HQ1.out w0).mono ?_
   rintro r w1a ⟨rfl, hb1⟩
   have hB1 : Below (w.heap.size + 1) w0 w1a := Below.trans (Below.refl _ _) (hb1.mono (by omega))
   have hX1 := Blk.below hX hB1 (by omega)
   have ho1 := OwnK.below ho0 hb1
   have hs1 : w.heap.size + 2 <= w1a.heap.size := by have := hB1.size; omega
   obtain ⟨a0, a1, a2, a3, a4, a5, a6, _⟩ := blk7 hX1
   have hl1 := hX1.lt
   go_wp2_with (at_builtin; refine wpList_append_k layP (by rfl) (.tmp 10) (.tmp 15) 22 underQ rfl (w.heap.size + 1) (.slice (some ⟨w.heap.size + 1, 0, none⟩) 0 0) [] (by rfl) (OwnK.below ho1 ((Below.refl _ _).alloc (Nat.le_refl _) _)) _ [⟨qn, qo, qk, qi, qt⟩] 1 1 (by rfl) (rdk_one layP w1a ⟨qn, qo, qk, qi, qt⟩ 38 _ rfl) rfl (by rw [maxLen_num]; simp; try omega) (by show _ * 56 <= _; simp; try omega) (by simp; omega) ?_; intro v1 w1 oo1 bb1 _ _; have hBB1 := bb1 w0 (Below.alloc hB1 (by omega) _); clear bb1 a0 a1 a2 a3 a4 a5 a6; have hX1b := Blk.below hX hBB1 (by omega); obtain ⟨a0, a1, a2, a3, a4, a5, a6, _⟩ := blk7 hX1b; have hl1b := hX1b.lt)
   clear a0 a1 a2 a3 a4 a5 a6
   refine (textEnd_at n t 3 4 ht ⟨un, uo, uk, ui, ut⟩ HQ2.out w1).mono ?_
   rintro r w2a ⟨rfl, hb2⟩
   have hB2 : Below (w.heap.size + 1) w0 w2a := Below.trans hBB1 (hb2.mono (by have := hBB1.size; omega))
   have hX2 := Blk.below hX hB2 (by omega)
   have ho2 := OwnK.below oo1 hb2
   have hs2 : w.heap.size + 2 <= w2a.heap.size := by have := hB2.size; omega
   obtain ⟨a0, a1, a2, a3, a4, a5, a6, _⟩ := blk7 hX2
   have hl2 := hX2.lt
   go_wp2_with (at_builtin; refine wpList_append_k layP (by rfl) (.tmp 20) (.tmp 25) 22 underQ rfl (w.heap.size + 1) v1 ([] ++ [⟨qn, qo, qk, qi, qt⟩]) (by rfl) (OwnK.below ho2 ((Below.refl _ _).alloc (Nat.le_refl _) _)) _ [⟨un, uo, uk, ui, ut⟩] 1 1 (by rfl) (rdk_one layP w2a ⟨un, uo, uk, ui, ut⟩ 38 _ rfl) rfl (by rw [maxLen_num]; simp; try omega) (by show _ * 56 <= _; simp; try omega) (by simp; omega) ?_; intro v2 w2 oo2 bb2 _ _; have hBB2 := bb2 w0 (Below.alloc hB2 (by omega) _); clear bb2 a0 a1 a2 a3 a4 a5 a6; have hX2b := Blk.below hX hBB2 (by omega); obtain ⟨a0, a1, a2, a3, a4, a5, a6, _⟩ := blk7 hX2b; have hl2b := hX2b.lt)
   go_ret
   exact ⟨_, rfl, by have h := oo2.less (show w.heap.size <= w.heap.size + 1 by omega); simpa using h, hW0.trans (hBB2.mono (by omega))⟩
set_option maxRecDepth 100000 in
set_option maxHeartbeats 4000000 in
theorem endsT_at (n f t : List UInt8) (o : Bool) (A : Option Addr) (m c : Nat) (hf : f.length <= 1000) (ht : t.length <= 1000) (w : World) (l1 l2 : List Pr) (hl1 : (if f = [] then [] else [teP n f 6 5]) = l1) (hl2 : (if o then [] else [teP n t 3 4]) = l2) :
  Calls Try.prog 37 #[.string ⟨n.toArray⟩, .agg #[.int .i64 2, .int .i64 0, .int .i64 0, .string ⟨f.toArray⟩, .string ⟨t.toArray⟩, .bool o, .slice A m c]] w (GivesQ w (l1 ++ l2)) := by
 have HL1 := Lib.hid hl1
 have HL2 := Lib.hid hl2
 clear hl1 hl2
 have hg := gr1 w (.cells #[.int .i64 2, .int .i64 0, .int .i64 0, .string ⟨f.toArray⟩, .string ⟨t.toArray⟩, .bool o, .slice A m c] 29)
 go_enter Try.func37, Try.ntmps37
 go_wp2_with fail
 generalize w.alloc (.cells #[.int .i64 2, .int .i64 0, .int .i64 0, .string ⟨f.toArray⟩, .string ⟨t.toArray⟩, .bool o, .slice A m c] 29) = w0 at *
 refine (textEnds_at n f t o A m c hf ht w0 l1 l2 HL1.out HL2.out).mono ?_
 rintro e w1 ⟨v, rfl, ho, hb⟩
 go_wp2_with fail
 go_ret
 exact ⟨v, rfl, ho.less hg.below.size, below_next hg.below (Nat.le_refl _) hb⟩
set_option maxRecDepth 100000 in
set_option maxHeartbeats 4000000 in
theorem endsN_at (n : List UInt8) (K lo hi : Int) (hk : K = 1 ∨ K = 3) (A : Option Addr) (m c : Nat) (w : World) (l1 l2 : List Pr) (hl1 : (if lowest K < lo then [(⟨n, 6, K, lo, []⟩ : Pr)] else []) = l1) (hl2 : (if hi < highest K then [(⟨n, 4, K, hi, []⟩ : Pr)] else []) = l2) :
  Calls Try.prog 37 #[.string ⟨n.toArray⟩, .agg #[.int .i64 K, .int .i64 lo, .int .i64 hi, .string ⟨#[]⟩, .string ⟨#[]⟩, .bool false, .slice A m c]] w (GivesQ w (l1 ++ l2)) := by
 have HK := Lib.hid hk
 have vk : (K == 2) = false := beq_eq_false_iff_ne.2 (by omega)
 clear hk
 have hX := (Blk.new w 29 #[.int .i64 K, .int .i64 lo, .int .i64 hi, .string ⟨#[]⟩, .string ⟨#[]⟩, .bool false, .slice A m c]).alloc (.cells #[] 38)
 have ho0 : OwnQ ((w.alloc (.cells #[.int .i64 K, .int .i64 lo, .int .i64 hi, .string ⟨#[]⟩, .string ⟨#[]⟩, .bool false, .slice A m c] 29)).alloc (.cells #[] 38)) (w.heap.size + 1) (.slice (some ⟨w.heap.size + 1, 0, none⟩) 0 0) [] := by
  have h := OwnK.empty (L := layP) (w.alloc (.cells #[.int .i64 K, .int .i64 lo, .int .i64 hi, .string ⟨#[]⟩, .string ⟨#[]⟩, .bool false, .slice A m c] 29)) (w.heap.size + 1) (by simp)
  rw [show (w.alloc (.cells #[.int .i64 K, .int .i64 lo, .int .i64 hi, .string ⟨#[]⟩, .string ⟨#[]⟩, .bool false, .slice A m c] 29)).heap.size = w.heap.size + 1 by simp] at h
  exact h
 have hW0 : Below w.heap.size w ((w.alloc (.cells #[.int .i64 K, .int .i64 lo, .int .i64 hi, .string ⟨#[]⟩, .string ⟨#[]⟩, .bool false, .slice A m c] 29)).alloc (.cells #[] 38)) := (gr2 w _ _).below
 have hs0 : ((w.alloc (.cells #[.int .i64 K, .int .i64 lo, .int .i64 hi, .string ⟨#[]⟩, .string ⟨#[]⟩, .bool false, .slice A m c] 29)).alloc (.cells #[] 38)).heap.size = w.heap.size + 2 := by simp
 by_cases ha : lowest K < lo
 ·by_cases hb : hi < highest K
  ·skip
   rw [if_pos ha] at hl1
   rw [if_pos hb] at hl2
   subst hl1
   subst hl2
   go_enter Try.func37, Try.ntmps37
   go_wp2_with fail
   generalize ((w.alloc (.cells #[.int .i64 K, .int .i64 lo, .int .i64 hi, .string ⟨#[]⟩, .string ⟨#[]⟩, .bool false, .slice A m c] 29)).alloc (.cells #[] 38)) = w0 at *
   refine (wholeN_at K w0 HK.out).mono ?_
   rintro e wa ⟨rfl, hga⟩
   have hBa : Below (w.heap.size + 1) w0 wa := hga.below.mono (by omega)
   have hsa : w.heap.size + 2 <= wa.heap.size := by have := hBa.size; omega
   have hoa := OwnK.below ho0 hga.below
   have hbb : Below wa.heap.size wa (wa.alloc (.cells #[.int .i64 K, .int .i64 (lowest K), .int .i64 (highest K), .string ⟨#[]⟩, .string ⟨#[]⟩, .bool false, .slice none 0 0] 29)) := (Below.refl _ _).alloc (Nat.le_refl _) _
   have hVb : Blk (wa.alloc (.cells #[.int .i64 K, .int .i64 (lowest K), .int .i64 (highest K), .string ⟨#[]⟩, .string ⟨#[]⟩, .bool false, .slice none 0 0] 29)) wa.heap.size 29 #[.int .i64 K, .int .i64 (lowest K), .int .i64 (highest K), .string ⟨#[]⟩, .string ⟨#[]⟩, .bool false, .slice none 0 0] := Blk.new _ _ _
   have hBb : Below (w.heap.size + 1) w0 (wa.alloc (.cells #[.int .i64 K, .int .i64 (lowest K), .int .i64 (highest K), .string ⟨#[]⟩, .string ⟨#[]⟩, .bool false, .slice none 0 0] 29)) := hBa.trans (hbb.mono (by omega))
   have hXb := Blk.below hX hBb (by omega)
   have hob := OwnK.below hoa hbb
   have hsb : w.heap.size + 2 <= (wa.alloc (.cells #[.int .i64 K, .int .i64 (lowest K), .int .i64 (highest K), .string ⟨#[]⟩, .string ⟨#[]⟩, .bool false, .slice none 0 0] 29)).heap.size := by simp; omega
   have hlV : wa.heap.size < (wa.alloc (.cells #[.int .i64 K, .int .i64 (lowest K), .int .i64 (highest K), .string ⟨#[]⟩, .string ⟨#[]⟩, .bool false, .slice none 0 0] 29)).heap.size := by simp
   have hXa := Blk.below hX hBa (by omega)
   obtain ⟨a0, a1, a2, a3, a4, a5, a6, _⟩ := blk7 hXa
   have hla := hXa.lt
   have hne : ¬ wa.heap.size = w.heap.size := by omega
   go_wp2_with (first | (at_builtin; refine wpList_append_k layP (by rfl) (.tmp 37) (.tmp 45) 22 underQ rfl (w.heap.size + 1) v1 [⟨n, 6, K, lo, []⟩] (by rfl) (OwnK.below oo1 ((Below.refl _ _).alloc (Nat.le_refl _) _)) _ [⟨n, 4, K, hi, []⟩] 1 1 (by rfl) (rdk_one layP w1 ⟨n, 4, K, hi, []⟩ 38 _ rfl) rfl (by rw [maxLen_num]; simp) (by show _ * 56 <= _; simp) (by simp; omega) ?_; intro v2 w2 oo2 bb2 _ _; have hBB2 := bb2 w0 (Below.alloc hBB1 (by omega) _); clear bb2) | (at_builtin; refine wpList_append_k layP (by rfl) (.tmp 22) (.tmp 30) 22 underQ rfl (w.heap.size + 1) (.slice (some ⟨w.heap.size + 1, 0, none⟩) 0 0) [] (by rfl) (OwnK.below hob ((Below.refl _ _).alloc (Nat.le_refl _) _)) _ [⟨n, 6, K, lo, []⟩] 1 1 (by rfl) (by have h := rdk_one layP (wa.alloc (.cells #[.int .i64 K, .int .i64 (lowest K), .int .i64 (highest K), .string ⟨#[]⟩, .string ⟨#[]⟩, .bool false, .slice none 0 0] 29)) ⟨n, 6, K, lo, []⟩ 38 _ rfl; rw [show (wa.alloc (.cells #[.int .i64 K, .int .i64 (lowest K), .int .i64 (highest K), .string ⟨#[]⟩, .string ⟨#[]⟩, .bool false, .slice none 0 0] 29)).heap.size = wa.heap.size + 1 by simp] at h; exact h) rfl (by rw [maxLen_num]; simp) (by show _ * 56 <= _; simp) (by simp; omega) ?_; intro v1 w1 oo1 bb1 gg1 _; have hBB1 := bb1 w0 (Below.alloc hBb (by omega) _); have hX1 := Blk.below hX hBB1 (by omega); have hV1 : Blk w1 wa.heap.size 29 #[.int .i64 K, .int .i64 (lowest K), .int .i64 (highest K), .string ⟨#[]⟩, .string ⟨#[]⟩, .bool false, .slice none 0 0] := (World.grownBy.block gg1 wa.heap.size (by simp; try omega) (by simp [Value.ownBlock]; try omega)).trans (Blk.alloc hVb _); clear bb1 gg1 a0 a1 a2 a3 a4 a5 a6; obtain ⟨a0, a1, a2, a3, a4, a5, a6, _⟩ := blk7 hX1; obtain ⟨z0, z1, z2, z3, z4, z5, z6, _⟩ := blk7 hV1; have hl1 := hX1.lt; have hl2 := hV1.lt))
   go_ret
   exact ⟨_, rfl, by have h := oo2.less (show w.heap.size <= w.heap.size + 1 by omega); simpa using h, hW0.trans (hBB2.mono (by omega))⟩
  ·skip
   rw [if_pos ha] at hl1
   rw [if_neg hb] at hl2
   subst hl1
   subst hl2
   go_enter Try.func37, Try.ntmps37
   go_wp2_with fail
   generalize ((w.alloc (.cells #[.int .i64 K, .int .i64 lo, .int .i64 hi, .string ⟨#[]⟩, .string ⟨#[]⟩, .bool false, .slice A m c] 29)).alloc (.cells #[] 38)) = w0 at *
   refine (wholeN_at K w0 HK.out).mono ?_
   rintro e wa ⟨rfl, hga⟩
   have hBa : Below (w.heap.size + 1) w0 wa := hga.below.mono (by omega)
   have hsa : w.heap.size + 2 <= wa.heap.size := by have := hBa.size; omega
   have hoa := OwnK.below ho0 hga.below
   have hbb : Below wa.heap.size wa (wa.alloc (.cells #[.int .i64 K, .int .i64 (lowest K), .int .i64 (highest K), .string ⟨#[]⟩, .string ⟨#[]⟩, .bool false, .slice none 0 0] 29)) := (Below.refl _ _).alloc (Nat.le_refl _) _
   have hVb : Blk (wa.alloc (.cells #[.int .i64 K, .int .i64 (lowest K), .int .i64 (highest K), .string ⟨#[]⟩, .string ⟨#[]⟩, .bool false, .slice none 0 0] 29)) wa.heap.size 29 #[.int .i64 K, .int .i64 (lowest K), .int .i64 (highest K), .string ⟨#[]⟩, .string ⟨#[]⟩, .bool false, .slice none 0 0] := Blk.new _ _ _
   have hBb : Below (w.heap.size + 1) w0 (wa.alloc (.cells #[.int .i64 K, .int .i64 (lowest K), .int .i64 (highest K), .string ⟨#[]⟩, .string ⟨#[]⟩, .bool false, .slice none 0 0] 29)) := hBa.trans (hbb.mono (by omega))
   have hXb := Blk.below hX hBb (by omega)
   have hob := OwnK.below hoa hbb
   have hsb : w.heap.size + 2 <= (wa.alloc (.cells #[.int .i64 K, .int .i64 (lowest K), .int .i64 (highest K), .string ⟨#[]⟩, .string ⟨#[]⟩, .bool false, .slice none 0 0] 29)).heap.size := by simp; omega
   have hlV : wa.heap.size < (wa.alloc (.cells #[.int .i64 K, .int .i64 (lowest K), .int .i64 (highest K), .string ⟨#[]⟩, .string ⟨#[]⟩, .bool false, .slice none 0 0] 29)).heap.size := by simp
   have hXa := Blk.below hX hBa (by omega)
   obtain ⟨a0, a1, a2, a3, a4, a5, a6, _⟩ := blk7 hXa
   have hla := hXa.lt
   have hne : ¬ wa.heap.size = w.heap.size := by omega
   have hb' : highest K <= hi := by omega
   go_wp2_with (at_builtin; refine wpList_append_k layP (by rfl) (.tmp 22) (.tmp 30) 22 underQ rfl (w.heap.size + 1) (.slice (some ⟨w.heap.size + 1, 0, none⟩) 0 0) [] (by rfl) (OwnK.below hob ((Below.refl _ _).alloc (Nat.le_refl _) _)) _ [⟨n, 6, K, lo, []⟩] 1 1 (by rfl) (by have h := rdk_one layP (wa.alloc (.cells #[.int .i64 K, .int .i64 (lowest K), .int .i64 (highest K), .string ⟨#[]⟩, .string ⟨#[]⟩, .bool false, .slice none 0 0] 29)) ⟨n, 6, K, lo, []⟩ 38 _ rfl; rw [show (wa.alloc (.cells #[.int .i64 K, .int .i64 (lowest K), .int .i64 (highest K), .string ⟨#[]⟩, .string ⟨#[]⟩, .bool false, .slice none 0 0] 29)).heap.size = wa.heap.size + 1 by simp] at h; exact h) rfl (by rw [maxLen_num]; simp) (by show _ * 56 <= _; simp) (by simp; omega) ?_; intro v1 w1 oo1 bb1 gg1 _; have hBB1 := bb1 w0 (Below.alloc hBb (by omega) _); have hX1 := Blk.below hX hBB1 (by omega); have hV1 : Blk w1 wa.heap.size 29 #[.int .i64 K, .int .i64 (lowest K), .int .i64 (highest K), .string ⟨#[]⟩, .string ⟨#[]⟩, .bool false, .slice none 0 0] := (World.grownBy.block gg1 wa.heap.size (by simp; try omega) (by simp [Value.ownBlock]; try omega)).trans (Blk.alloc hVb _); clear bb1 gg1 a0 a1 a2 a3 a4 a5 a6; obtain ⟨a0, a1, a2, a3, a4, a5, a6, _⟩ := blk7 hX1; obtain ⟨z0, z1, z2, z3, z4, z5, z6, _⟩ := blk7 hV1; have hl1 := hX1.lt; have hl2 := hV1.lt)
   go_ret
   exact ⟨_, rfl, by have h := oo1.less (show w.heap.size <= w.heap.size + 1 by omega); simpa using h, hW0.trans (hBB1.mono (by omega))⟩
 ·by_cases hb : hi < highest K
  ·skip
   rw [if_neg ha] at hl1
   rw [if_pos hb] at hl2
   subst hl1
   subst hl2
   go_enter Try.func37, Try.ntmps37
   go_wp2_with fail
   generalize ((w.alloc (.cells #[.int .i64 K, .int .i64 lo, .int .i64 hi, .string ⟨#[]⟩, .string ⟨#[]⟩, .bool false, .slice A m c] 29)).alloc (.cells #[] 38)) = w0 at *
   refine (wholeN_at K w0 HK.out).mono ?_
   rintro e wa ⟨rfl, hga⟩
   have hBa : Below (w.heap.size + 1) w0 wa := hga.below.mono (by omega)
   have hsa : w.heap.size + 2 <= wa.heap.size := by have := hBa.size; omega
   have hoa := OwnK.below ho0 hga.below
   have hbb : Below wa.heap.size wa (wa.alloc (.cells #[.int .i64 K, .int .i64 (lowest K), .int .i64 (highest K), .string ⟨#[]⟩, .string ⟨#[]⟩, .bool false, .slice none 0 0] 29)) := (Below.refl _ _).alloc (Nat.le_refl _) _
   have hVb : Blk (wa.alloc (.cells #[.int .i64 K, .int .i64 (lowest K), .int .i64 (highest K), .string ⟨#[]⟩, .string ⟨#[]⟩, .bool false, .slice none 0 0] 29)) wa.heap.size 29 #[.int .i64 K, .int .i64 (lowest K), .int .i64 (highest K), .string ⟨#[]⟩, .string ⟨#[]⟩, .bool false, .slice none 0 0] := Blk.new _ _ _
   have hBb : Below (w.heap.size + 1) w0 (wa.alloc (.cells #[.int .i64 K, .int .i64 (lowest K), .int .i64 (highest K), .string ⟨#[]⟩, .string ⟨#[]⟩, .bool false, .slice none 0 0] 29)) := hBa.trans (hbb.mono (by omega))
   have hXb := Blk.below hX hBb (by omega)
   have hob := OwnK.below hoa hbb
   have hsb : w.heap.size + 2 <= (wa.alloc (.cells #[.int .i64 K, .int .i64 (lowest K), .int .i64 (highest K), .string ⟨#[]⟩, .string ⟨#[]⟩, .bool false, .slice none 0 0] 29)).heap.size := by simp; omega
   have hlV : wa.heap.size < (wa.alloc (.cells #[.int .i64 K, .int .i64 (lowest K), .int .i64 (highest K), .string ⟨#[]⟩, .string ⟨#[]⟩, .bool false, .slice none 0 0] 29)).heap.size := by simp
   have hXa := Blk.below hX hBa (by omega)
   obtain ⟨a0, a1, a2, a3, a4, a5, a6, _⟩ := blk7 hXa
   have hla := hXa.lt
   have hne : ¬ wa.heap.size = w.heap.size := by omega
   have ha' : lo <= lowest K := by omega
   go_wp2_with (at_builtin; refine wpList_append_k layP (by rfl) (.tmp 37) (.tmp 45) 22 underQ rfl (w.heap.size + 1) (.slice (some ⟨w.heap.size + 1, 0, none⟩) 0 0) [] (by rfl) (OwnK.below hob ((Below.refl _ _).alloc (Nat.le_refl _) _)) _ [⟨n, 4, K, hi, []⟩] 1 1 (by rfl) (by have h := rdk_one layP (wa.alloc (.cells #[.int .i64 K, .int .i64 (lowest K), .int .i64 (highest K), .string ⟨#[]⟩, .string ⟨#[]⟩, .bool false, .slice none 0 0] 29)) ⟨n, 4, K, hi, []⟩ 38 _ rfl; rw [show (wa.alloc (.cells #[.int .i64 K, .int .i64 (lowest K), .int .i64 (highest K), .string ⟨#[]⟩, .string ⟨#[]⟩, .bool false, .slice none 0 0] 29)).heap.size = wa.heap.size + 1 by simp] at h; exact h) rfl (by rw [maxLen_num]; simp) (by show _ * 56 <= _; simp) (by simp; omega) ?_; intro v2 w2 oo2 bb2 _ _; have hBB2 := bb2 w0 (Below.alloc hBb (by omega) _); clear bb2)
   go_ret
   exact ⟨_, rfl, by have h := oo2.less (show w.heap.size <= w.heap.size + 1 by omega); simpa using h, hW0.trans (hBB2.mono (by omega))⟩
  ·skip
   rw [if_neg ha] at hl1
   rw [if_neg hb] at hl2
   subst hl1
   subst hl2
   go_enter Try.func37, Try.ntmps37
   go_wp2_with fail
   generalize ((w.alloc (.cells #[.int .i64 K, .int .i64 lo, .int .i64 hi, .string ⟨#[]⟩, .string ⟨#[]⟩, .bool false, .slice A m c] 29)).alloc (.cells #[] 38)) = w0 at *
   refine (wholeN_at K w0 HK.out).mono ?_
   rintro e wa ⟨rfl, hga⟩
   have hBa : Below (w.heap.size + 1) w0 wa := hga.below.mono (by omega)
   have hsa : w.heap.size + 2 <= wa.heap.size := by have := hBa.size; omega
   have hoa := OwnK.below ho0 hga.below
   have hbb : Below wa.heap.size wa (wa.alloc (.cells #[.int .i64 K, .int .i64 (lowest K), .int .i64 (highest K), .string ⟨#[]⟩, .string ⟨#[]⟩, .bool false, .slice none 0 0] 29)) := (Below.refl _ _).alloc (Nat.le_refl _) _
   have hVb : Blk (wa.alloc (.cells #[.int .i64 K, .int .i64 (lowest K), .int .i64 (highest K), .string ⟨#[]⟩, .string ⟨#[]⟩, .bool false, .slice none 0 0] 29)) wa.heap.size 29 #[.int .i64 K, .int .i64 (lowest K), .int .i64 (highest K), .string ⟨#[]⟩, .string ⟨#[]⟩, .bool false, .slice none 0 0] := Blk.new _ _ _
   have hBb : Below (w.heap.size + 1) w0 (wa.alloc (.cells #[.int .i64 K, .int .i64 (lowest K), .int .i64 (highest K), .string ⟨#[]⟩, .string ⟨#[]⟩, .bool false, .slice none 0 0] 29)) := hBa.trans (hbb.mono (by omega))
   have hXb := Blk.below hX hBb (by omega)
   have hob := OwnK.below hoa hbb
   have hsb : w.heap.size + 2 <= (wa.alloc (.cells #[.int .i64 K, .int .i64 (lowest K), .int .i64 (highest K), .string ⟨#[]⟩, .string ⟨#[]⟩, .bool false, .slice none 0 0] 29)).heap.size := by simp; omega
   have hlV : wa.heap.size < (wa.alloc (.cells #[.int .i64 K, .int .i64 (lowest K), .int .i64 (highest K), .string ⟨#[]⟩, .string ⟨#[]⟩, .bool false, .slice none 0 0] 29)).heap.size := by simp
   have hXa := Blk.below hX hBa (by omega)
   obtain ⟨a0, a1, a2, a3, a4, a5, a6, _⟩ := blk7 hXa
   have hla := hXa.lt
   have hne : ¬ wa.heap.size = w.heap.size := by omega
   have ha' : lo <= lowest K := by omega
   have hb' : highest K <= hi := by omega
   go_wp2_with fail
   go_ret
   exact ⟨_, rfl, by have h := hob.less (show w.heap.size <= w.heap.size + 1 by omega); simpa using h, hW0.trans (hBb.mono (by omega))⟩
end Go.Proofs.Ytoffnfooeojhnaa
namespace Go.Proofs.Ytoffnfooeojhnaa
open Go.RowKit Go.Sort Spans Op
set_option maxRecDepth 100000 in
set_option maxHeartbeats 4000000 in
theorem onlyN_at (K lo hi : Int) (hk : K ≠ 2) (A : Option Addr) (m c : Nat) (w : World) : Calls Try.prog 36 #[.agg #[.int .i64 K, .int .i64 lo, .int .i64 hi, .string ⟨#[]⟩, .string ⟨#[]⟩, .bool false, .slice A m c]] w fun e w' => e = .returned (.tuple #[.agg #[.int .i64 K, .int .i64 lo, .string ⟨#[]⟩], .bool (lo == hi)]) /\ Below w.heap.size w w' := by
 have hX := (Blk.new w 29 #[.int .i64 K, .int .i64 lo, .int .i64 hi, .string ⟨#[]⟩, .string ⟨#[]⟩, .bool false, .slice A m c]).alloc (.cells #[.int .i64 0, .int .i64 0, .string ⟨#[]⟩] 24)
 have hY := Blk.new (w.alloc (.cells #[.int .i64 K, .int .i64 lo, .int .i64 hi, .string ⟨#[]⟩, .string ⟨#[]⟩, .bool false, .slice A m c] 29)) 24 #[.int .i64 0, .int .i64 0, .string ⟨#[]⟩]
 rw [show (w.alloc (.cells #[.int .i64 K, .int .i64 lo, .int .i64 hi, .string ⟨#[]⟩, .string ⟨#[]⟩, .bool false, .slice A m c] 29)).heap.size = w.heap.size + 1 by simp] at hY
 have hW : Below w.heap.size w ((w.alloc (.cells #[.int .i64 K, .int .i64 lo, .int .i64 hi, .string ⟨#[]⟩, .string ⟨#[]⟩, .bool false, .slice A m c] 29)).alloc (.cells #[.int .i64 0, .int .i64 0, .string ⟨#[]⟩] 24)) := (gr2 w _ _).below
 have vk : (K == 2) = false := beq_eq_false_iff_ne.2 hk
 go_enter Try.func36, Try.ntmps36
 go_wp2_with fail
 generalize ((w.alloc (.cells #[.int .i64 K, .int .i64 lo, .int .i64 hi, .string ⟨#[]⟩, .string ⟨#[]⟩, .bool false, .slice A m c] 29)).alloc (.cells #[.int .i64 0, .int .i64 0, .string ⟨#[]⟩] 24)) = w0 at *
 have hS0 : Blk w0.drew w.heap.size 29 #[.int .i64 K, .int .i64 lo, .int .i64 hi, .string ⟨#[]⟩, .string ⟨#[]⟩, .bool false, .slice A m c] := hX
 refine wp_region_held_drew (S := fun w' => Blk w' w.heap.size 29 #[.int .i64 K, .int .i64 lo, .int .i64 hi, .string ⟨#[]⟩, .string ⟨#[]⟩, .bool false, .slice A m c]) (by kernel_rfl) hS0 (fun _ => ?_)
 refine wpAnyH_yes (i := 0) (d := 23) (v := ?_) rfl rfl (by kernel_rfl) (by kernel_rfl) (by kernel_rfl) (fun _ _ _ h => h) (by rfl) ?_ hS0 ?_
 rotate_left
 ·intro w' hSw; obtain ⟨s0, s1, s2, s3, s4, s5, s6, _⟩ := blk7 hSw; go_simp <;> with_reducible rfl
 simp only [Act.put, List.setIfInBounds_toArray, List.set_cons_zero, List.set_cons_succ]
 refine wpAnyH_yes (i := 1) (d := 24) (v := ?_) rfl rfl (by kernel_rfl) (by kernel_rfl) (by kernel_rfl) (fun _ _ _ h => h) (by rfl) ?_ hS0 ?_
 rotate_left
 ·intro w' hSw; obtain ⟨s0, s1, s2, s3, s4, s5, s6, _⟩ := blk7 hSw; go_simp <;> with_reducible rfl
 simp only [Act.put, List.setIfInBounds_toArray, List.set_cons_zero, List.set_cons_succ]
 refine wpAnyH_yes (i := 2) (d := 25) (v := ?_) rfl rfl (by kernel_rfl) (by kernel_rfl) (by kernel_rfl) (fun _ _ _ h => h) (by rfl) ?_ hS0 ?_
 rotate_left
 ·intro w' hSw; obtain ⟨s0, s1, s2, s3, s4, s5, s6, _⟩ := blk7 hSw; go_simp <;> with_reducible rfl
 simp only [Act.put, List.setIfInBounds_toArray, List.set_cons_zero, List.set_cons_succ]
 refine wpAnyH_yes (i := 3) (d := 26) (v := ?_) rfl rfl (by kernel_rfl) (by kernel_rfl) (by kernel_rfl) (fun _ _ _ h => h) (by rfl) ?_ hS0 ?_
 rotate_left
 ·intro w' hSw; obtain ⟨s0, s1, s2, s3, s4, s5, s6, _⟩ := blk7 hSw; go_simp <;> with_reducible rfl
 simp only [Act.put, List.setIfInBounds_toArray, List.set_cons_zero, List.set_cons_succ]
 refine wpAnyH_yes (i := 4) (d := 27) (v := ?_) rfl rfl (by kernel_rfl) (by kernel_rfl) (by kernel_rfl) (fun _ _ _ h => h) (by rfl) ?_ hS0 ?_
 rotate_left
 ·intro w' hSw; obtain ⟨s0, s1, s2, s3, s4, s5, s6, _⟩ := blk7 hSw; go_simp <;> with_reducible rfl
 simp only [Act.put, List.setIfInBounds_toArray, List.set_cons_zero, List.set_cons_succ]
 refine wpAnyH_yes (i := 5) (d := 28) (v := ?_) rfl rfl (by kernel_rfl) (by kernel_rfl) (by kernel_rfl) (fun _ _ _ h => h) (by rfl) ?_ hS0 ?_
 rotate_left
 ·intro w' hSw; obtain ⟨s0, s1, s2, s3, s4, s5, s6, _⟩ := blk7 hSw; go_simp <;> with_reducible rfl
 simp only [Act.put, List.setIfInBounds_toArray, List.set_cons_zero, List.set_cons_succ]
 refine wpAnyH_yes (i := 6) (d := 29) (v := ?_) rfl rfl (by kernel_rfl) (by kernel_rfl) (by kernel_rfl) (fun _ _ _ h => h) (by rfl) ?_ hS0 ?_
 rotate_left
 ·intro w' hSw; obtain ⟨s0, s1, s2, s3, s4, s5, s6, _⟩ := blk7 hSw; go_simp <;> with_reducible rfl
 simp only [Act.put, List.setIfInBounds_toArray, List.set_cons_zero, List.set_cons_succ]
 refine wpAnyH_yes (i := 7) (d := 30) (v := ?_) rfl rfl (by kernel_rfl) (by kernel_rfl) (by kernel_rfl) (fun _ _ _ h => h) (by rfl) ?_ hS0 ?_
 rotate_left
 ·intro w' hSw; obtain ⟨s0, s1, s2, s3, s4, s5, s6, _⟩ := blk7 hSw; go_simp <;> with_reducible rfl
 simp only [Act.put, List.setIfInBounds_toArray, List.set_cons_zero, List.set_cons_succ]
 refine wpAnyH_yes (i := 8) (d := 31) (v := ?_) rfl rfl (by kernel_rfl) (by kernel_rfl) (by kernel_rfl) (fun _ _ _ h => h) (by rfl) ?_ hS0 ?_
 rotate_left
 ·intro w' hSw; obtain ⟨s0, s1, s2, s3, s4, s5, s6, _⟩ := blk7 hSw; go_simp <;> with_reducible rfl
 simp only [Act.put, List.setIfInBounds_toArray, List.set_cons_zero, List.set_cons_succ]
 refine wpAnyH_yes (i := 9) (d := 32) (v := ?_) rfl rfl (by kernel_rfl) (by kernel_rfl) (by kernel_rfl) (fun _ _ _ h => h) (by rfl) ?_ hS0 ?_
 rotate_left
 ·intro w' hSw; obtain ⟨s0, s1, s2, s3, s4, s5, s6, _⟩ := blk7 hSw; go_simp <;> with_reducible rfl
 simp only [Act.put, List.setIfInBounds_toArray, List.set_cons_zero, List.set_cons_succ]
 obtain ⟨y0, y1, y2, q0, q1, q2⟩ := blk3 hY
 have hl := hY.lt
 refine wpAnyH_one (i := 10) (by kernel_rfl) rfl (by rfl) (fun Ka hKa => ?_)
 go_simp
 have hS1 := Blk.far (Blk.far (Blk.far hS0 (p := ⟨w.heap.size + 1, 0, none⟩) (by show w.heap.size ≠ w.heap.size + 1; omega) (.int .i64 K)) (p := ⟨w.heap.size + 1, 1, none⟩) (by show w.heap.size ≠ w.heap.size + 1; omega) (.int .i64 lo)) (p := ⟨w.heap.size + 1, 2, none⟩) (by show w.heap.size ≠ w.heap.size + 1; omega) (.string ⟨#[]⟩)
 refine hKa.out _ _ hS1 ?_
 refine wpAnyH_yes (i := 11) (d := 3) (v := ?_) rfl rfl (by kernel_rfl) (by kernel_rfl) (by kernel_rfl) (fun _ _ _ h => h) (by rfl) ?_ hS1 ?_
 rotate_left
 ·intro w' hSw; obtain ⟨s0, s1, s2, s3, s4, s5, s6, _⟩ := blk7 hSw; go_simp <;> with_reducible rfl
 simp only [Act.put, List.setIfInBounds_toArray, List.set_cons_zero, List.set_cons_succ]
 refine wpAnyH_done (by kernel_rfl) ?_ _
 go_wp2_with fail
 refine bodyPost_ret (v := .tuple #[.agg #[.int .i64 K, .int .i64 lo, .string ⟨#[]⟩], .bool (lo == hi)]) (by simp [results, Try.results36, go_sem, y0, y1, y2]) rfl ?_
 exact ⟨rfl, below_set (below_set (below_set hW.drew (by omega)) (by omega)) (by omega)⟩
set_option maxRecDepth 100000 in
set_option maxHeartbeats 4000000 in
theorem onlyO_at (f t : List UInt8) (_hf : f.length <= 1000) (A : Option Addr) (m c : Nat) (w : World) : Calls Try.prog 36 #[.agg #[.int .i64 2, .int .i64 0, .int .i64 0, .string ⟨f.toArray⟩, .string ⟨t.toArray⟩, .bool true, .slice A m c]] w fun e w' => e = .returned (.tuple #[.agg #[.int .i64 2, .int .i64 0, .string ⟨f.toArray⟩], .bool false]) /\ Below w.heap.size w w' := by
 have hX := (Blk.new w 29 #[.int .i64 2, .int .i64 0, .int .i64 0, .string ⟨f.toArray⟩, .string ⟨t.toArray⟩, .bool true, .slice A m c]).alloc (.cells #[.int .i64 0, .int .i64 0, .string ⟨#[]⟩] 24)
 have hY := Blk.new (w.alloc (.cells #[.int .i64 2, .int .i64 0, .int .i64 0, .string ⟨f.toArray⟩, .string ⟨t.toArray⟩, .bool true, .slice A m c] 29)) 24 #[.int .i64 0, .int .i64 0, .string ⟨#[]⟩]
 rw [show (w.alloc (.cells #[.int .i64 2, .int .i64 0, .int .i64 0, .string ⟨f.toArray⟩, .string ⟨t.toArray⟩, .bool true, .slice A m c] 29)).heap.size = w.heap.size + 1 by simp] at hY
 have hW : Below w.heap.size w ((w.alloc (.cells #[.int .i64 2, .int .i64 0, .int .i64 0, .string ⟨f.toArray⟩, .string ⟨t.toArray⟩, .bool true, .slice A m c] 29)).alloc (.cells #[.int .i64 0, .int .i64 0, .string ⟨#[]⟩] 24)) := (gr2 w _ _).below
 go_enter Try.func36, Try.ntmps36
 go_wp2_with fail
 generalize ((w.alloc (.cells #[.int .i64 2, .int .i64 0, .int .i64 0, .string ⟨f.toArray⟩, .string ⟨t.toArray⟩, .bool true, .slice A m c] 29)).alloc (.cells #[.int .i64 0, .int .i64 0, .string ⟨#[]⟩] 24)) = w0 at *
 have hS0 : Blk w0.drew w.heap.size 29 #[.int .i64 2, .int .i64 0, .int .i64 0, .string ⟨f.toArray⟩, .string ⟨t.toArray⟩, .bool true, .slice A m c] := hX
 refine wp_region_held_drew (S := fun w' => Blk w' w.heap.size 29 #[.int .i64 2, .int .i64 0, .int .i64 0, .string ⟨f.toArray⟩, .string ⟨t.toArray⟩, .bool true, .slice A m c]) (by kernel_rfl) hS0 (fun _ => ?_)
 refine wpAnyH_yes (i := 0) (d := 7) (v := ?_) rfl rfl (by kernel_rfl) (by kernel_rfl) (by kernel_rfl) (fun _ _ _ h => h) (by rfl) ?_ hS0 ?_
 rotate_left
 ·intro w' hSw; obtain ⟨s0, s1, s2, s3, s4, s5, s6, _⟩ := blk7 hSw; go_simp <;> with_reducible rfl
 simp only [Act.put, List.setIfInBounds_toArray, List.set_cons_zero, List.set_cons_succ]
 refine wpAnyH_yes (i := 1) (d := 8) (v := ?_) rfl rfl (by kernel_rfl) (by kernel_rfl) (by kernel_rfl) (fun _ _ _ h => h) (by rfl) ?_ hS0 ?_
 rotate_left
 ·intro w' hSw; obtain ⟨s0, s1, s2, s3, s4, s5, s6, _⟩ := blk7 hSw; go_simp <;> with_reducible rfl
 simp only [Act.put, List.setIfInBounds_toArray, List.set_cons_zero, List.set_cons_succ]
 refine wpAnyH_yes (i := 2) (d := 9) (v := ?_) rfl rfl (by kernel_rfl) (by kernel_rfl) (by kernel_rfl) (fun _ _ _ h => h) (by rfl) ?_ hS0 ?_
 rotate_left
 ·intro w' hSw; obtain ⟨s0, s1, s2, s3, s4, s5, s6, _⟩ := blk7 hSw; go_simp <;> with_reducible rfl
 simp only [Act.put, List.setIfInBounds_toArray, List.set_cons_zero, List.set_cons_succ]
 refine wpAnyH_yes (i := 3) (d := 10) (v := ?_) rfl rfl (by kernel_rfl) (by kernel_rfl) (by kernel_rfl) (fun _ _ _ h => h) (by rfl) ?_ hS0 ?_
 rotate_left
 ·intro w' hSw; obtain ⟨s0, s1, s2, s3, s4, s5, s6, _⟩ := blk7 hSw; go_simp <;> with_reducible rfl
 simp only [Act.put, List.setIfInBounds_toArray, List.set_cons_zero, List.set_cons_succ]
 refine wpAnyH_yes (i := 4) (d := 11) (v := ?_) rfl rfl (by kernel_rfl) (by kernel_rfl) (by kernel_rfl) (fun _ _ _ h => h) (by rfl) ?_ hS0 ?_
 rotate_left
 ·intro w' hSw; obtain ⟨s0, s1, s2, s3, s4, s5, s6, _⟩ := blk7 hSw; go_simp <;> with_reducible rfl
 simp only [Act.put, List.setIfInBounds_toArray, List.set_cons_zero, List.set_cons_succ]
 refine wpAnyH_yes (i := 5) (d := 12) (v := ?_) rfl rfl (by kernel_rfl) (by kernel_rfl) (by kernel_rfl) (fun _ _ _ h => h) (by rfl) ?_ hS0 ?_
 rotate_left
 ·intro w' hSw; obtain ⟨s0, s1, s2, s3, s4, s5, s6, _⟩ := blk7 hSw; go_simp <;> with_reducible rfl
 simp only [Act.put, List.setIfInBounds_toArray, List.set_cons_zero, List.set_cons_succ]
 refine wpAnyH_yes (i := 6) (d := 13) (v := ?_) rfl rfl (by kernel_rfl) (by kernel_rfl) (by kernel_rfl) (fun _ _ _ h => h) (by rfl) ?_ hS0 ?_
 rotate_left
 ·intro w' hSw; obtain ⟨s0, s1, s2, s3, s4, s5, s6, _⟩ := blk7 hSw; go_simp <;> with_reducible rfl
 simp only [Act.put, List.setIfInBounds_toArray, List.set_cons_zero, List.set_cons_succ]
 refine wpAnyH_yes (i := 7) (d := 14) (v := ?_) rfl rfl (by kernel_rfl) (by kernel_rfl) (by kernel_rfl) (fun _ _ _ h => h) (by rfl) ?_ hS0 ?_
 rotate_left
 ·intro w' hSw; obtain ⟨s0, s1, s2, s3, s4, s5, s6, _⟩ := blk7 hSw; go_simp <;> with_reducible rfl
 simp only [Act.put, List.setIfInBounds_toArray, List.set_cons_zero, List.set_cons_succ]
 refine wpAnyH_yes (i := 8) (d := 15) (v := ?_) rfl rfl (by kernel_rfl) (by kernel_rfl) (by kernel_rfl) (fun _ _ _ h => h) (by rfl) ?_ hS0 ?_
 rotate_left
 ·intro w' hSw; obtain ⟨s0, s1, s2, s3, s4, s5, s6, _⟩ := blk7 hSw; go_simp <;> with_reducible rfl
 simp only [Act.put, List.setIfInBounds_toArray, List.set_cons_zero, List.set_cons_succ]
 refine wpAnyH_no (i := 9) (d := 16) rfl rfl (by kernel_rfl) (by kernel_rfl) (by kernel_rfl) (fun _ _ _ h => h) (by rfl) hS0 ?_
 simp only [Act.put, List.setIfInBounds_toArray, List.set_cons_zero, List.set_cons_succ]
 refine wpAnyH_no (i := 10) (d := 17) rfl rfl (by kernel_rfl) (by kernel_rfl) (by kernel_rfl) (fun _ _ _ h => h) (by rfl) hS0 ?_
 simp only [Act.put, List.setIfInBounds_toArray, List.set_cons_zero, List.set_cons_succ]
 refine wpAnyH_no (i := 11) (d := 18) rfl rfl (by kernel_rfl) (by kernel_rfl) (by kernel_rfl) (fun _ _ _ h => h) (by rfl) hS0 ?_
 simp only [Act.put, List.setIfInBounds_toArray, List.set_cons_zero, List.set_cons_succ]
 refine wpAnyH_no (i := 12) (d := 19) rfl rfl (by kernel_rfl) (by kernel_rfl) (by kernel_rfl) (fun _ _ _ h => h) (by rfl) hS0 ?_
 simp only [Act.put, List.setIfInBounds_toArray, List.set_cons_zero, List.set_cons_succ]
 refine wpAnyH_no (i := 13) (d := 20) rfl rfl (by kernel_rfl) (by kernel_rfl) (by kernel_rfl) (fun _ _ _ h => h) (by rfl) hS0 ?_
 simp only [Act.put, List.setIfInBounds_toArray, List.set_cons_zero, List.set_cons_succ]
 refine wpAnyH_no (i := 14) (d := 21) rfl rfl (by kernel_rfl) (by kernel_rfl) (by kernel_rfl) (fun _ _ _ h => h) (by rfl) hS0 ?_
 simp only [Act.put, List.setIfInBounds_toArray, List.set_cons_zero, List.set_cons_succ]
 refine wpAnyH_yes (i := 15) (d := 22) (v := ?_) rfl rfl (by kernel_rfl) (by kernel_rfl) (by kernel_rfl) (fun _ _ _ h => h) (by rfl) ?_ hS0 ?_
 rotate_left
 ·intro w' hSw; obtain ⟨s0, s1, s2, s3, s4, s5, s6, _⟩ := blk7 hSw; go_simp <;> with_reducible rfl
 simp only [Act.put, List.setIfInBounds_toArray, List.set_cons_zero, List.set_cons_succ]
 obtain ⟨y0, y1, y2, q0, q1, q2⟩ := blk3 hY
 have hl := hY.lt
 refine wpAnyH_one (i := 16) (by kernel_rfl) rfl (by rfl) (fun Ka hKa => ?_)
 go_simp
 have hS1 := Blk.far (Blk.far (Blk.far hS0 (p := ⟨w.heap.size + 1, 0, none⟩) (by show w.heap.size ≠ w.heap.size + 1; omega) (.int .i64 2)) (p := ⟨w.heap.size + 1, 1, none⟩) (by show w.heap.size ≠ w.heap.size + 1; omega) (.int .i64 0)) (p := ⟨w.heap.size + 1, 2, none⟩) (by show w.heap.size ≠ w.heap.size + 1; omega) (.string ⟨f.toArray⟩)
 refine hKa.out _ _ hS1 ?_
 refine wpAnyH_yes (i := 17) (d := 3) (v := ?_) rfl rfl (by kernel_rfl) (by kernel_rfl) (by kernel_rfl) (fun _ _ _ h => h) (by rfl) ?_ hS1 ?_
 rotate_left
 ·intro w' hSw; obtain ⟨s0, s1, s2, s3, s4, s5, s6, _⟩ := blk7 hSw; go_simp <;> with_reducible rfl
 simp only [Act.put, List.setIfInBounds_toArray, List.set_cons_zero, List.set_cons_succ]
 refine wpAnyH_done (by kernel_rfl) ?_ _
 go_wp2_with fail
 refine bodyPost_ret (v := .tuple #[.agg #[.int .i64 2, .int .i64 0, .string ⟨f.toArray⟩], .bool false]) (by simp [results, Try.results36, go_sem, y0, y1, y2]) rfl ?_
 exact ⟨rfl, below_set (below_set (below_set hW.drew (by omega)) (by omega)) (by omega)⟩
set_option maxRecDepth 100000 in
set_option maxHeartbeats 4000000 in
theorem onlyT_at (f t : List UInt8) (hf : f.length <= 1000) (A : Option Addr) (m c : Nat) (w : World) : Calls Try.prog 36 #[.agg #[.int .i64 2, .int .i64 0, .int .i64 0, .string ⟨f.toArray⟩, .string ⟨t.toArray⟩, .bool false, .slice A m c]] w fun e w' => e = .returned (.tuple #[.agg #[.int .i64 2, .int .i64 0, .string ⟨f.toArray⟩], .bool (t == f ++ [0])]) /\ Below w.heap.size w w' := by
 have hX := (Blk.new w 29 #[.int .i64 2, .int .i64 0, .int .i64 0, .string ⟨f.toArray⟩, .string ⟨t.toArray⟩, .bool false, .slice A m c]).alloc (.cells #[.int .i64 0, .int .i64 0, .string ⟨#[]⟩] 24)
 have hY := Blk.new (w.alloc (.cells #[.int .i64 2, .int .i64 0, .int .i64 0, .string ⟨f.toArray⟩, .string ⟨t.toArray⟩, .bool false, .slice A m c] 29)) 24 #[.int .i64 0, .int .i64 0, .string ⟨#[]⟩]
 rw [show (w.alloc (.cells #[.int .i64 2, .int .i64 0, .int .i64 0, .string ⟨f.toArray⟩, .string ⟨t.toArray⟩, .bool false, .slice A m c] 29)).heap.size = w.heap.size + 1 by simp] at hY
 have hW : Below w.heap.size w ((w.alloc (.cells #[.int .i64 2, .int .i64 0, .int .i64 0, .string ⟨f.toArray⟩, .string ⟨t.toArray⟩, .bool false, .slice A m c] 29)).alloc (.cells #[.int .i64 0, .int .i64 0, .string ⟨#[]⟩] 24)) := (gr2 w _ _).below
 have hadd := ba_app0 f
 have wa : ¬ 9223372036854775807 < f.length + 1 := by omega
 go_enter Try.func36, Try.ntmps36
 go_wp2_with fail
 generalize ((w.alloc (.cells #[.int .i64 2, .int .i64 0, .int .i64 0, .string ⟨f.toArray⟩, .string ⟨t.toArray⟩, .bool false, .slice A m c] 29)).alloc (.cells #[.int .i64 0, .int .i64 0, .string ⟨#[]⟩] 24)) = w0 at *
 have hS0 : Blk w0.drew w.heap.size 29 #[.int .i64 2, .int .i64 0, .int .i64 0, .string ⟨f.toArray⟩, .string ⟨t.toArray⟩, .bool false, .slice A m c] := hX
 refine wp_region_held_drew (S := fun w' => Blk w' w.heap.size 29 #[.int .i64 2, .int .i64 0, .int .i64 0, .string ⟨f.toArray⟩, .string ⟨t.toArray⟩, .bool false, .slice A m c]) (by kernel_rfl) hS0 (fun _ => ?_)
 refine wpAnyH_yes (i := 0) (d := 7) (v := ?_) rfl rfl (by kernel_rfl) (by kernel_rfl) (by kernel_rfl) (fun _ _ _ h => h) (by rfl) ?_ hS0 ?_
 rotate_left
 ·intro w' hSw; obtain ⟨s0, s1, s2, s3, s4, s5, s6, _⟩ := blk7 hSw; go_simp <;> with_reducible rfl
 simp only [Act.put, List.setIfInBounds_toArray, List.set_cons_zero, List.set_cons_succ]
 refine wpAnyH_yes (i := 1) (d := 8) (v := ?_) rfl rfl (by kernel_rfl) (by kernel_rfl) (by kernel_rfl) (fun _ _ _ h => h) (by rfl) ?_ hS0 ?_
 rotate_left
 ·intro w' hSw; obtain ⟨s0, s1, s2, s3, s4, s5, s6, _⟩ := blk7 hSw; go_simp <;> with_reducible rfl
 simp only [Act.put, List.setIfInBounds_toArray, List.set_cons_zero, List.set_cons_succ]
 refine wpAnyH_yes (i := 2) (d := 9) (v := ?_) rfl rfl (by kernel_rfl) (by kernel_rfl) (by kernel_rfl) (fun _ _ _ h => h) (by rfl) ?_ hS0 ?_
 rotate_left
 ·intro w' hSw; obtain ⟨s0, s1, s2, s3, s4, s5, s6, _⟩ := blk7 hSw; go_simp <;> with_reducible rfl
 simp only [Act.put, List.setIfInBounds_toArray, List.set_cons_zero, List.set_cons_succ]
 refine wpAnyH_yes (i := 3) (d := 10) (v := ?_) rfl rfl (by kernel_rfl) (by kernel_rfl) (by kernel_rfl) (fun _ _ _ h => h) (by rfl) ?_ hS0 ?_
 rotate_left
 ·intro w' hSw; obtain ⟨s0, s1, s2, s3, s4, s5, s6, _⟩ := blk7 hSw; go_simp <;> with_reducible rfl
 simp only [Act.put, List.setIfInBounds_toArray, List.set_cons_zero, List.set_cons_succ]
 refine wpAnyH_yes (i := 4) (d := 11) (v := ?_) rfl rfl (by kernel_rfl) (by kernel_rfl) (by kernel_rfl) (fun _ _ _ h => h) (by rfl) ?_ hS0 ?_
 rotate_left
 ·intro w' hSw; obtain ⟨s0, s1, s2, s3, s4, s5, s6, _⟩ := blk7 hSw; go_simp <;> with_reducible rfl
 simp only [Act.put, List.setIfInBounds_toArray, List.set_cons_zero, List.set_cons_succ]
 refine wpAnyH_yes (i := 5) (d := 12) (v := ?_) rfl rfl (by kernel_rfl) (by kernel_rfl) (by kernel_rfl) (fun _ _ _ h => h) (by rfl) ?_ hS0 ?_
 rotate_left
 ·intro w' hSw; obtain ⟨s0, s1, s2, s3, s4, s5, s6, _⟩ := blk7 hSw; go_simp <;> with_reducible rfl
 simp only [Act.put, List.setIfInBounds_toArray, List.set_cons_zero, List.set_cons_succ]
 refine wpAnyH_yes (i := 6) (d := 13) (v := ?_) rfl rfl (by kernel_rfl) (by kernel_rfl) (by kernel_rfl) (fun _ _ _ h => h) (by rfl) ?_ hS0 ?_
 rotate_left
 ·intro w' hSw; obtain ⟨s0, s1, s2, s3, s4, s5, s6, _⟩ := blk7 hSw; go_simp <;> with_reducible rfl
 simp only [Act.put, List.setIfInBounds_toArray, List.set_cons_zero, List.set_cons_succ]
 refine wpAnyH_yes (i := 7) (d := 14) (v := ?_) rfl rfl (by kernel_rfl) (by kernel_rfl) (by kernel_rfl) (fun _ _ _ h => h) (by rfl) ?_ hS0 ?_
 rotate_left
 ·intro w' hSw; obtain ⟨s0, s1, s2, s3, s4, s5, s6, _⟩ := blk7 hSw; go_simp <;> with_reducible rfl
 simp only [Act.put, List.setIfInBounds_toArray, List.set_cons_zero, List.set_cons_succ]
 refine wpAnyH_yes (i := 8) (d := 15) (v := ?_) rfl rfl (by kernel_rfl) (by kernel_rfl) (by kernel_rfl) (fun _ _ _ h => h) (by rfl) ?_ hS0 ?_
 rotate_left
 ·intro w' hSw; obtain ⟨s0, s1, s2, s3, s4, s5, s6, _⟩ := blk7 hSw; go_simp <;> with_reducible rfl
 simp only [Act.put, List.setIfInBounds_toArray, List.set_cons_zero, List.set_cons_succ]
 refine wpAnyH_yes (i := 9) (d := 16) (v := ?_) rfl rfl (by kernel_rfl) (by kernel_rfl) (by kernel_rfl) (fun _ _ _ h => h) (by rfl) ?_ hS0 ?_
 rotate_left
 ·intro w' hSw; obtain ⟨s0, s1, s2, s3, s4, s5, s6, _⟩ := blk7 hSw; go_simp <;> with_reducible rfl
 simp only [Act.put, List.setIfInBounds_toArray, List.set_cons_zero, List.set_cons_succ]
 refine wpAnyH_yes (i := 10) (d := 17) (v := ?_) rfl rfl (by kernel_rfl) (by kernel_rfl) (by kernel_rfl) (fun _ _ _ h => h) (by rfl) ?_ hS0 ?_
 rotate_left
 ·intro w' hSw; obtain ⟨s0, s1, s2, s3, s4, s5, s6, _⟩ := blk7 hSw; go_simp <;> with_reducible rfl
 simp only [Act.put, List.setIfInBounds_toArray, List.set_cons_zero, List.set_cons_succ]
 refine wpAnyH_yes (i := 11) (d := 18) (v := ?_) rfl rfl (by kernel_rfl) (by kernel_rfl) (by kernel_rfl) (fun _ _ _ h => h) (by rfl) ?_ hS0 ?_
 rotate_left
 ·intro w' hSw; obtain ⟨s0, s1, s2, s3, s4, s5, s6, _⟩ := blk7 hSw; go_simp <;> with_reducible rfl
 simp only [Act.put, List.setIfInBounds_toArray, List.set_cons_zero, List.set_cons_succ]
 refine wpAnyH_yes (i := 12) (d := 19) (v := ?_) rfl rfl (by kernel_rfl) (by kernel_rfl) (by kernel_rfl) (fun _ _ _ h => h) (by rfl) ?_ hS0 ?_
 rotate_left
 ·intro w' hSw; obtain ⟨s0, s1, s2, s3, s4, s5, s6, _⟩ := blk7 hSw; go_simp <;> with_reducible rfl
 simp only [Act.put, List.setIfInBounds_toArray, List.set_cons_zero, List.set_cons_succ]
 refine wpAnyH_yes (i := 13) (d := 20) (v := ?_) rfl rfl (by kernel_rfl) (by kernel_rfl) (by kernel_rfl) (fun _ _ _ h => h) (by rfl) ?_ hS0 ?_
 rotate_left
 ·intro w' hSw; obtain ⟨s0, s1, s2, s3, s4, s5, s6, _⟩ := blk7 hSw; go_simp <;> with_reducible rfl
 simp only [Act.put, List.setIfInBounds_toArray, List.set_cons_zero, List.set_cons_succ]
 refine wpAnyH_yes (i := 14) (d := 21) (v := ?_) rfl rfl (by kernel_rfl) (by kernel_rfl) (by kernel_rfl) (fun _ _ _ h => h) (by rfl) ?_ hS0 ?_
 rotate_left
 ·intro w' hSw; obtain ⟨s0, s1, s2, s3, s4, s5, s6, _⟩ := blk7 hSw; go_simp <;> with_reducible rfl
 simp only [Act.put, List.setIfInBounds_toArray, List.set_cons_zero, List.set_cons_succ]
 refine wpAnyH_yes (i := 15) (d := 22) (v := ?_) rfl rfl (by kernel_rfl) (by kernel_rfl) (by kernel_rfl) (fun _ _ _ h => h) (by rfl) ?_ hS0 ?_
 rotate_left
 ·intro w' hSw; obtain ⟨s0, s1, s2, s3, s4, s5, s6, _⟩ := blk7 hSw; go_simp <;> with_reducible rfl
 simp only [Act.put, List.setIfInBounds_toArray, List.set_cons_zero, List.set_cons_succ]
 obtain ⟨y0, y1, y2, q0, q1, q2⟩ := blk3 hY
 have hl := hY.lt
 refine wpAnyH_one (i := 16) (by kernel_rfl) rfl (by rfl) (fun Ka hKa => ?_)
 go_simp
 have hS1 := Blk.far (Blk.far (Blk.far hS0 (p := ⟨w.heap.size + 1, 0, none⟩) (by show w.heap.size ≠ w.heap.size + 1; omega) (.int .i64 2)) (p := ⟨w.heap.size + 1, 1, none⟩) (by show w.heap.size ≠ w.heap.size + 1; omega) (.int .i64 0)) (p := ⟨w.heap.size + 1, 2, none⟩) (by show w.heap.size ≠ w.heap.size + 1; omega) (.string ⟨f.toArray⟩)
 refine hKa.out _ _ hS1 ?_
 refine wpAnyH_yes (i := 17) (d := 3) (v := ?_) rfl rfl (by kernel_rfl) (by kernel_rfl) (by kernel_rfl) (fun _ _ _ h => h) (by rfl) ?_ hS1 ?_
 rotate_left
 ·intro w' hSw; obtain ⟨s0, s1, s2, s3, s4, s5, s6, _⟩ := blk7 hSw; go_simp <;> with_reducible rfl
 simp only [Act.put, List.setIfInBounds_toArray, List.set_cons_zero, List.set_cons_succ]
 refine wpAnyH_done (by kernel_rfl) ?_ _
 go_wp2_with fail
 refine bodyPost_ret (v := .tuple #[.agg #[.int .i64 2, .int .i64 0, .string ⟨f.toArray⟩], .bool (t == f ++ [0])]) (by simp [results, Try.results36, go_sem, y0, y1, y2]) rfl ?_
 exact ⟨rfl, below_set (below_set (below_set hW.drew (by omega)) (by omega)) (by omega)⟩
end Go.Proofs.Ytoffnfooeojhnaa
namespace Go.Proofs.Ytoffnfooeojhnaa
open Go.RowKit Go.Sort Spans Op
set_option maxRecDepth 100000 in
theorem prs_none (n : List UInt8) (lo hi : Int) (f t : List UInt8) (o : Bool) (A : Option Addr) (m c : Nat) (w : World) : Calls Try.prog 16 #[.string ⟨n.toArray⟩, .agg #[.int .i64 0, .int .i64 lo, .int .i64 hi, .string ⟨f.toArray⟩, .string ⟨t.toArray⟩, .bool o, .slice A m c]] w (GivesQ w []) := by
 go_enter Try.func16, Try.ntmps16
 go_wp2_with fail
 go_ret
 exact ⟨_, rfl, OwnK.none_ _ _, (gr2 _ _ _).below⟩
set_option maxRecDepth 100000 in
theorem prs_name (n : List UInt8) (K lo hi : Int) (f t : List UInt8) (o : Bool) (A : Option Addr) (m c : Nat) (w : World) (h0 : K ≠ 0) (hn : n.length <= 9223372036854775807) (hr : Preds.right n 8 0 0 [] = false) : Calls Try.prog 16 #[.string ⟨n.toArray⟩, .agg #[.int .i64 K, .int .i64 lo, .int .i64 hi, .string ⟨f.toArray⟩, .string ⟨t.toArray⟩, .bool o, .slice A m c]] w (GivesQ w []) := by
 have HR := Lib.hid hr
 clear hr
 have v0 : (K == 0) = false := beq_eq_false_iff_ne.2 h0
 have hX := (Blk.new w 29 #[.int .i64 K, .int .i64 lo, .int .i64 hi, .string ⟨f.toArray⟩, .string ⟨t.toArray⟩, .bool o, .slice A m c]).alloc (.cells #[.string ⟨n.toArray⟩, .int .i64 8, .int .i64 0, .int .i64 0, .string ⟨#[]⟩] 38)
 have hE := Blk.new (w.alloc (.cells #[.int .i64 K, .int .i64 lo, .int .i64 hi, .string ⟨f.toArray⟩, .string ⟨t.toArray⟩, .bool o, .slice A m c] 29)) 38 #[.string ⟨n.toArray⟩, .int .i64 8, .int .i64 0, .int .i64 0, .string ⟨#[]⟩]
 rw [show (w.alloc (.cells #[.int .i64 K, .int .i64 lo, .int .i64 hi, .string ⟨f.toArray⟩, .string ⟨t.toArray⟩, .bool o, .slice A m c] 29)).heap.size = w.heap.size + 1 by simp] at hE
 have hW : Below w.heap.size w ((w.alloc (.cells #[.int .i64 K, .int .i64 lo, .int .i64 hi, .string ⟨f.toArray⟩, .string ⟨t.toArray⟩, .bool o, .slice A m c] 29)).alloc (.cells #[.string ⟨n.toArray⟩, .int .i64 8, .int .i64 0, .int .i64 0, .string ⟨#[]⟩] 38)) := (gr2 w _ _).below
 have hs0 : ((w.alloc (.cells #[.int .i64 K, .int .i64 lo, .int .i64 hi, .string ⟨f.toArray⟩, .string ⟨t.toArray⟩, .bool o, .slice A m c] 29)).alloc (.cells #[.string ⟨n.toArray⟩, .int .i64 8, .int .i64 0, .int .i64 0, .string ⟨#[]⟩] 38)).heap.size = w.heap.size + 2 := by simp
 go_enter Try.func16, Try.ntmps16
 go_wp2_with fail
 generalize ((w.alloc (.cells #[.int .i64 K, .int .i64 lo, .int .i64 hi, .string ⟨f.toArray⟩, .string ⟨t.toArray⟩, .bool o, .slice A m c] 29)).alloc (.cells #[.string ⟨n.toArray⟩, .int .i64 8, .int .i64 0, .int .i64 0, .string ⟨#[]⟩] 38)) = w0 at *
 refine (pright_is n 8 0 0 [] w0 hn (by simp) false HR.out).mono ?_
 rintro e w1 ⟨rfl, hb1⟩
 go_wp2_with fail
 go_ret
 exact ⟨_, rfl, OwnK.none_ _ _, below_next hW (Nat.le_refl _) hb1⟩
set_option maxRecDepth 100000 in
theorem prs_any (n : List UInt8) (lo hi : Int) (f t : List UInt8) (o : Bool) (A : Option Addr) (m c : Nat) (w : World) (hn : n.length <= 9223372036854775807) (hr : Preds.right n 8 0 0 [] = true) : Calls Try.prog 16 #[.string ⟨n.toArray⟩, .agg #[.int .i64 4, .int .i64 lo, .int .i64 hi, .string ⟨f.toArray⟩, .string ⟨t.toArray⟩, .bool o, .slice A m c]] w (GivesQ w [⟨n, 8, 0, 0, []⟩]) := by
 have HR := Lib.hid hr
 clear hr
 have hX := (Blk.new w 29 #[.int .i64 4, .int .i64 lo, .int .i64 hi, .string ⟨f.toArray⟩, .string ⟨t.toArray⟩, .bool o, .slice A m c]).alloc (.cells #[.string ⟨n.toArray⟩, .int .i64 8, .int .i64 0, .int .i64 0, .string ⟨#[]⟩] 38)
 have hE := Blk.new (w.alloc (.cells #[.int .i64 4, .int .i64 lo, .int .i64 hi, .string ⟨f.toArray⟩, .string ⟨t.toArray⟩, .bool o, .slice A m c] 29)) 38 #[.string ⟨n.toArray⟩, .int .i64 8, .int .i64 0, .int .i64 0, .string ⟨#[]⟩]
 rw [show (w.alloc (.cells #[.int .i64 4, .int .i64 lo, .int .i64 hi, .string ⟨f.toArray⟩, .string ⟨t.toArray⟩, .bool o, .slice A m c] 29)).heap.size = w.heap.size + 1 by simp] at hE
 have hW : Below w.heap.size w ((w.alloc (.cells #[.int .i64 4, .int .i64 lo, .int .i64 hi, .string ⟨f.toArray⟩, .string ⟨t.toArray⟩, .bool o, .slice A m c] 29)).alloc (.cells #[.string ⟨n.toArray⟩, .int .i64 8, .int .i64 0, .int .i64 0, .string ⟨#[]⟩] 38)) := (gr2 w _ _).below
 have hs0 : ((w.alloc (.cells #[.int .i64 4, .int .i64 lo, .int .i64 hi, .string ⟨f.toArray⟩, .string ⟨t.toArray⟩, .bool o, .slice A m c] 29)).alloc (.cells #[.string ⟨n.toArray⟩, .int .i64 8, .int .i64 0, .int .i64 0, .string ⟨#[]⟩] 38)).heap.size = w.heap.size + 2 := by simp
 go_enter Try.func16, Try.ntmps16
 go_wp2_with fail
 generalize ((w.alloc (.cells #[.int .i64 4, .int .i64 lo, .int .i64 hi, .string ⟨f.toArray⟩, .string ⟨t.toArray⟩, .bool o, .slice A m c] 29)).alloc (.cells #[.string ⟨n.toArray⟩, .int .i64 8, .int .i64 0, .int .i64 0, .string ⟨#[]⟩] 38)) = w0 at *
 refine (pright_is n 8 0 0 [] w0 hn (by simp) true HR.out).mono ?_
 rintro e w1 ⟨rfl, hb1⟩
 have hX1 := Blk.below hX hb1 hX.lt
 have hE1 := Blk.below hE hb1 hE.lt
 obtain ⟨a0, a1, a2, a3, a4, a5, a6, _⟩ := blk7 hX1
 obtain ⟨e0, e1, e2, e3, e4, _⟩ := blk5 hE1
 have hl1 := hX1.lt
 have hl2 := hE1.lt
 have hB1 := below_next hW (Nat.le_refl _) hb1
 go_wp2_with fail
 go_ret
 exact ⟨_, rfl, own_litK layP w1 w.heap.size hB1.size ⟨n, 8, 0, 0, []⟩ rfl, hB1.alloc hB1.size _⟩
set_option maxRecDepth 100000 in
set_option maxHeartbeats 8000000 in
theorem prsN_one (n : List UInt8) (K lo hi : Int) (hk : K = 1 ∨ K = 3) (A : Option Addr) (m c : Nat) (es : List Val) (w : World) (l1 l2 : List Pr) (hl1 : (if lowest K < lo then [(⟨n, 6, K, lo, []⟩ : Pr)] else []) = l1) (hl2 : (if hi < highest K then [(⟨n, 4, K, hi, []⟩ : Pr)] else []) = l2) (hn : n.length <= 9223372036854775807) (hr : Preds.right n 8 0 0 [] = true) (hm : es.length = m) (_hmm : m <= 10000) (hes : RdW w A es) (hone : lo = hi) :
  Calls Try.prog 16 #[.string ⟨n.toArray⟩, .agg #[.int .i64 K, .int .i64 lo, .int .i64 hi, .string ⟨#[]⟩, .string ⟨#[]⟩, .bool false, .slice A m c]] w (GivesQ w [⟨n, 1, K, lo, []⟩]) := by
 have HLen0 : Hid (l1.length + l2.length <= 1000) := by
  show l1.length + l2.length <= 1000
  rw [<- hl1, <- hl2]
  split <;> split <;> simp
 have HONE := Lib.hid hone
 clear hone
 have HR := Lib.hid hr
 have HL1 := Lib.hid hl1
 have HL2 := Lib.hid hl2
 have HM := Lib.hid hm
 have HES := Lib.hid hes
 clear hr hl1 hl2 hm hes
 have HK := Lib.hid hk
 have v0 : (K == 0) = false := beq_eq_false_iff_ne.2 (by omega)
 have v4 : (K == 4) = false := beq_eq_false_iff_ne.2 (by omega)
 clear hk
 have hX := (Blk.new w 29 #[.int .i64 K, .int .i64 lo, .int .i64 hi, .string ⟨#[]⟩, .string ⟨#[]⟩, .bool false, .slice A m c]).alloc (.cells #[.string ⟨n.toArray⟩, .int .i64 8, .int .i64 0, .int .i64 0, .string ⟨#[]⟩] 38)
 have hE := Blk.new (w.alloc (.cells #[.int .i64 K, .int .i64 lo, .int .i64 hi, .string ⟨#[]⟩, .string ⟨#[]⟩, .bool false, .slice A m c] 29)) 38 #[.string ⟨n.toArray⟩, .int .i64 8, .int .i64 0, .int .i64 0, .string ⟨#[]⟩]
 rw [show (w.alloc (.cells #[.int .i64 K, .int .i64 lo, .int .i64 hi, .string ⟨#[]⟩, .string ⟨#[]⟩, .bool false, .slice A m c] 29)).heap.size = w.heap.size + 1 by simp] at hE
 have hW : Below w.heap.size w ((w.alloc (.cells #[.int .i64 K, .int .i64 lo, .int .i64 hi, .string ⟨#[]⟩, .string ⟨#[]⟩, .bool false, .slice A m c] 29)).alloc (.cells #[.string ⟨n.toArray⟩, .int .i64 8, .int .i64 0, .int .i64 0, .string ⟨#[]⟩] 38)) := (gr2 w _ _).below
 have hs0 : ((w.alloc (.cells #[.int .i64 K, .int .i64 lo, .int .i64 hi, .string ⟨#[]⟩, .string ⟨#[]⟩, .bool false, .slice A m c] 29)).alloc (.cells #[.string ⟨n.toArray⟩, .int .i64 8, .int .i64 0, .int .i64 0, .string ⟨#[]⟩] 38)).heap.size = w.heap.size + 2 := by simp
 obtain ⟨l, hll⟩ : ∃ l, l1 ++ l2 = l := ⟨_, rfl⟩
 have HLL := Lib.hid hll
 have HLen : Hid (l.length <= 1000) := by show l.length <= 1000; rw [<- HLL.out, List.length_append]; exact HLen0.out
 clear hll
 go_enter Try.func16, Try.ntmps16
 go_wp2_with fail
 generalize ((w.alloc (.cells #[.int .i64 K, .int .i64 lo, .int .i64 hi, .string ⟨#[]⟩, .string ⟨#[]⟩, .bool false, .slice A m c] 29)).alloc (.cells #[.string ⟨n.toArray⟩, .int .i64 8, .int .i64 0, .int .i64 0, .string ⟨#[]⟩] 38)) = w0 at *
 refine (pright_is n 8 0 0 [] w0 hn (by simp) true HR.out).mono ?_
 rintro e w1 ⟨rfl, hb1⟩
 have hX1 := Blk.below hX hb1 hX.lt
 obtain ⟨a0, a1, a2, a3, a4, a5, a6, _⟩ := blk7 hX1
 have hlx1 := hX1.lt
 have hB1 := below_next hW (Nat.le_refl _) hb1
 clear hX hE hW hb1
 go_wp2_with fail
 refine (onlyN_at K lo hi (by have := HK.out; omega) A m c w1).mono ?_
 rintro e w2 ⟨rfl, hb2⟩
 have hX2 := Blk.below hX1 hb2 hX1.lt
 have hB2 := below_next hB1 (Nat.le_refl _) hb2
 clear a0 a1 a2 a3 a4 a5 a6 hlx1 hX1 hB1 hb2
 obtain ⟨a0, a1, a2, a3, a4, a5, a6, _⟩ := blk7 hX2
 have hlx2 := hX2.lt
 have hs2 : w.heap.size + 1 <= w2.heap.size := hlx2
 have v1 : (lo == hi) = true := beq_iff_eq.2 HONE.out
 rw [v1]
 clear v1
 go_wp2_with fail
 go_ret
 refine ⟨_, rfl, ?_, (hB2.alloc hB2.size _).alloc (by simp; have := hB2.size; omega) _⟩
 have h := own_litK layP (w2.alloc (.cells #[.int .i64 K, .int .i64 lo, .string ⟨#[]⟩] 24)) w.heap.size (by simp; omega) ⟨n, 1, K, lo, []⟩ rfl
 rw [show (w2.alloc (.cells #[.int .i64 K, .int .i64 lo, .string ⟨#[]⟩] 24)).heap.size = w2.heap.size + 1 by simp] at h
 exact h
set_option maxRecDepth 100000 in
set_option maxHeartbeats 8000000 in
theorem prsN_more (n : List UInt8) (K lo hi : Int) (hk : K = 1 ∨ K = 3) (A : Option Addr) (m c : Nat) (es : List Val) (w : World) (l1 l2 : List Pr) (hl1 : (if lowest K < lo then [(⟨n, 6, K, lo, []⟩ : Pr)] else []) = l1) (hl2 : (if hi < highest K then [(⟨n, 4, K, hi, []⟩ : Pr)] else []) = l2) (hn : n.length <= 9223372036854775807) (hr : Preds.right n 8 0 0 [] = true) (hm : es.length = m) (hmm : m <= 10000) (hes : RdW w A es) (hone : ¬ lo = hi) :
  Calls Try.prog 16 #[.string ⟨n.toArray⟩, .agg #[.int .i64 K, .int .i64 lo, .int .i64 hi, .string ⟨#[]⟩, .string ⟨#[]⟩, .bool false, .slice A m c]] w (GivesQ w (orP (l1 ++ l2 ++ es.map fun v => (⟨n, 2, v.k, v.i, v.t⟩ : Pr)) ⟨n, 6, K, lowest K, []⟩)) := by
 have HLen0 : Hid (l1.length + l2.length <= 1000) := by
  show l1.length + l2.length <= 1000
  rw [<- hl1, <- hl2]
  split <;> split <;> simp
 have HR := Lib.hid hr
 have HL1 := Lib.hid hl1
 have HL2 := Lib.hid hl2
 have HM := Lib.hid hm
 have HES := Lib.hid hes
 clear hr hl1 hl2 hm hes
 have HK := Lib.hid hk
 have v0 : (K == 0) = false := beq_eq_false_iff_ne.2 (by omega)
 have v4 : (K == 4) = false := beq_eq_false_iff_ne.2 (by omega)
 clear hk
 have hX := (Blk.new w 29 #[.int .i64 K, .int .i64 lo, .int .i64 hi, .string ⟨#[]⟩, .string ⟨#[]⟩, .bool false, .slice A m c]).alloc (.cells #[.string ⟨n.toArray⟩, .int .i64 8, .int .i64 0, .int .i64 0, .string ⟨#[]⟩] 38)
 have hE := Blk.new (w.alloc (.cells #[.int .i64 K, .int .i64 lo, .int .i64 hi, .string ⟨#[]⟩, .string ⟨#[]⟩, .bool false, .slice A m c] 29)) 38 #[.string ⟨n.toArray⟩, .int .i64 8, .int .i64 0, .int .i64 0, .string ⟨#[]⟩]
 rw [show (w.alloc (.cells #[.int .i64 K, .int .i64 lo, .int .i64 hi, .string ⟨#[]⟩, .string ⟨#[]⟩, .bool false, .slice A m c] 29)).heap.size = w.heap.size + 1 by simp] at hE
 have hW : Below w.heap.size w ((w.alloc (.cells #[.int .i64 K, .int .i64 lo, .int .i64 hi, .string ⟨#[]⟩, .string ⟨#[]⟩, .bool false, .slice A m c] 29)).alloc (.cells #[.string ⟨n.toArray⟩, .int .i64 8, .int .i64 0, .int .i64 0, .string ⟨#[]⟩] 38)) := (gr2 w _ _).below
 have hs0 : ((w.alloc (.cells #[.int .i64 K, .int .i64 lo, .int .i64 hi, .string ⟨#[]⟩, .string ⟨#[]⟩, .bool false, .slice A m c] 29)).alloc (.cells #[.string ⟨n.toArray⟩, .int .i64 8, .int .i64 0, .int .i64 0, .string ⟨#[]⟩] 38)).heap.size = w.heap.size + 2 := by simp
 obtain ⟨l, hll⟩ : ∃ l, l1 ++ l2 = l := ⟨_, rfl⟩
 have HLL := Lib.hid hll
 have HLen : Hid (l.length <= 1000) := by show l.length <= 1000; rw [<- HLL.out, List.length_append]; exact HLen0.out
 rw [HLL.out]
 clear hll
 go_enter Try.func16, Try.ntmps16
 go_wp2_with fail
 generalize ((w.alloc (.cells #[.int .i64 K, .int .i64 lo, .int .i64 hi, .string ⟨#[]⟩, .string ⟨#[]⟩, .bool false, .slice A m c] 29)).alloc (.cells #[.string ⟨n.toArray⟩, .int .i64 8, .int .i64 0, .int .i64 0, .string ⟨#[]⟩] 38)) = w0 at *
 refine (pright_is n 8 0 0 [] w0 hn (by simp) true HR.out).mono ?_
 rintro e w1 ⟨rfl, hb1⟩
 have hX1 := Blk.below hX hb1 hX.lt
 obtain ⟨a0, a1, a2, a3, a4, a5, a6, _⟩ := blk7 hX1
 have hlx1 := hX1.lt
 have hB1 := below_next hW (Nat.le_refl _) hb1
 clear hX hE hW hb1
 go_wp2_with fail
 refine (onlyN_at K lo hi (by have := HK.out; omega) A m c w1).mono ?_
 rintro e w2 ⟨rfl, hb2⟩
 have hX2 := Blk.below hX1 hb2 hX1.lt
 have hB2 := below_next hB1 (Nat.le_refl _) hb2
 clear a0 a1 a2 a3 a4 a5 a6 hlx1 hX1 hB1 hb2
 obtain ⟨a0, a1, a2, a3, a4, a5, a6, _⟩ := blk7 hX2
 have hlx2 := hX2.lt
 have hs2 : w.heap.size + 1 <= w2.heap.size := hlx2
 have v1 : (lo == hi) = false := beq_eq_false_iff_ne.2 hone
 rw [v1]
 have hb3 : Below w2.heap.size w2 (w2.alloc (.cells #[.int .i64 K, .int .i64 lo, .string ⟨#[]⟩] 24)) := (Below.refl _ _).alloc (Nat.le_refl _) _
 have hX3 := Blk.below hX2 hb3 hX2.lt
 have hB3 := below_next hB2 (Nat.le_refl _) hb3
 have hs3 : w.heap.size + 1 <= (w2.alloc (.cells #[.int .i64 K, .int .i64 lo, .string ⟨#[]⟩] 24)).heap.size := by simp; omega
 go_wp2_with fail
 generalize (w2.alloc (.cells #[.int .i64 K, .int .i64 lo, .string ⟨#[]⟩] 24)) = w3 at *
 clear a0 a1 a2 a3 a4 a5 a6 hlx2 hX2 hB2 hb3
 refine (endsN_at n K lo hi HK.out A m c w3 l1 l2 HL1.out HL2.out).mono ?_
 rintro e w4 ⟨v4, rfl, ho4, hb4⟩
 rw [HLL.out] at ho4
 have hX4 := Blk.below hX3 hb4 hX3.lt
 have hB4 := below_next hB3 (Nat.le_refl _) hb4
 have hs4 : w.heap.size + 1 <= w4.heap.size := Nat.le_trans hs3 hb4.size
 have HO4 := Lib.hid (ho4.less hs3)
 obtain ⟨a0, a1, a2, a3, a4, a5, a6, _⟩ := blk7 hX4
 have hlx4 := hX4.lt
 clear hX3 hB3 hb4 ho4
 go_wp2_with fail
 clear a0 a1 a2 a3 a4 a5 a6 hlx4
 have HX4 := Lib.hid hX4
 have HB4 := Lib.hid hB4
 clear hX4 hB4
 go_loopg [8, 43] m (fun gg s8 s43 wr => ∃ k : Nat, k <= m /\ m - k <= gg /\ s43 = .int .i64 (k : Int) /\ w.heap.size + 1 <= wr.heap.size /\ Hid (OwnQ wr (w.heap.size + 1) s8 (l ++ (es.take k).map fun v => (⟨n, 2, v.k, v.i, v.t⟩ : Pr))) /\ Hid (Blk wr w.heap.size 29 #[.int .i64 K, .int .i64 lo, .int .i64 hi, .string ⟨#[]⟩, .string ⟨#[]⟩, .bool false, .slice A m c]) /\ Hid (Below w.heap.size w wr))
 case atStart => exact ⟨0, Nat.zero_le _, by omega, rfl, hs4, by show OwnQ _ _ _ _; simpa using HO4.out, HX4, HB4⟩
 case round =>
  obtain ⟨k, hk, hgg, rfl, hsr, HO, HX, HB⟩ := hrel
  clear HO4 HX4 HB4
  by_cases hlt : k < m
  ·have hk' : k < es.length := by rw [HM.out]; exact hlt
   obtain ⟨g, off, rfl, hg, c0, c1, c2⟩ := RdW.at3 (RdK.below HES.out HB.out) hk'
   obtain ⟨x, hx⟩ : ∃ x, es[k] = x := ⟨_, rfl⟩
   have HXX := Lib.hid hx
   rw [hx] at c0 c1 c2
   clear hx
   obtain ⟨xk, xi, xt⟩ := x
   have w5 : (k : Int) < (m : Int) := by omega
   have hbv : Below wr.heap.size wr (wr.alloc (.cells #[.int .i64 xk, .int .i64 xi, .string ⟨xt.toArray⟩] 24)) := (Below.refl _ _).alloc (Nat.le_refl _) _
   have ho6 := OwnK.below HO.out hbv
   have hX6 := Blk.below HX.out hbv HX.out.lt
   have hB6 := below_next HB.out (Nat.le_refl _) hbv
   have hlen : (l ++ (es.take k).map fun v => (⟨n, 2, v.k, v.i, v.t⟩ : Pr)).length <= 1002 + m := by
    rw [List.length_append, List.length_map, List.length_take]
    have := HLen.out
    omega
   have HLen2 := Lib.hid hlen
   clear hlen
   have HQ : Hid ((l ++ (es.take k).map fun v => (⟨n, 2, v.k, v.i, v.t⟩ : Pr)) ++ [⟨n, 2, xk, xi, xt⟩] = l ++ (es.take (k + 1)).map fun v => (⟨n, 2, v.k, v.i, v.t⟩ : Pr)) := by
    show _ = _
    rw [List.take_succ_eq_append_getElem hk', HXX.out]
    simp
   generalize hL : (l ++ (es.take k).map fun v => (⟨n, 2, v.k, v.i, v.t⟩ : Pr)) = lk at *
   clear hL
   go_wp2_with (at_builtin; refine wpList_append_k layP (by rfl) (.tmp 47) (.tmp 51) 22 underQ rfl (w.heap.size + 1) _ lk (by rfl) (OwnK.below ho6 ((Below.refl _ _).alloc (Nat.le_refl _) _)) _ [⟨n, 2, xk, xi, xt⟩] 1 1 (by rfl) (by have h := rdk_one layP (wr.alloc (.cells #[.int .i64 xk, .int .i64 xi, .string ⟨xt.toArray⟩] 24)) ⟨n, 2, xk, xi, xt⟩ 38 _ rfl; rw [show (wr.alloc (.cells #[.int .i64 xk, .int .i64 xi, .string ⟨xt.toArray⟩] 24)).heap.size = wr.heap.size + 1 by simp] at h; exact h) rfl (by rw [maxLen_num]; have := HLen2.out; omega) (by show (lk.length + 1) * 56 <= _; have := HLen2.out; omega) (by simp; omega) ?_; intro v7 w7 o7 b7 gg7 _; have hX7 := Blk.below (Blk.alloc hX6 _) (b7 _ (Below.refl _ _)) (by omega); have hB7 := (below_next hB6 (Nat.le_refl _) ((Below.refl _ _).alloc (Nat.le_refl _) _)).trans ((b7 _ (Below.refl _ _)).mono (by omega)); have hs7 := Below.size (b7 _ (Below.refl _ _)); clear b7 gg7; rw [HQ.out] at o7; have HO7 := Lib.hid o7; have HX7 := Lib.hid hX7; have HB7 := Lib.hid hB7; clear o7 hX7 hB7 c0 c1 c2)
   go_roundg (m - (k + 1))
   case measure => omega
   case rel => exact ⟨k + 1, by omega, Nat.le_refl _, by go_num, by simp at hs7; omega, HO7, HX7, HB7⟩
  ·have hkn : Hid (k = m) := by show k = m; omega
   have hO5 := HO.out
   rw [hkn.out, List.take_of_length_le (by rw [HM.out]; exact Nat.le_refl _)] at hO5
   have HO5 := Lib.hid hO5
   clear HO
   obtain ⟨tot, htot⟩ : ∃ tot, (l ++ es.map fun v => (⟨n, 2, v.k, v.i, v.t⟩ : Pr)).length = tot := ⟨_, rfl⟩
   have HTOT := Lib.hid htot
   obtain ⟨B5, c5, rfl, hc5, hr5⟩ := OwnK.form hO5 htot
   clear htot hO5 hr5
   by_cases ht0 : tot = 0
   ·have HEQ : Hid (orP (l ++ es.map fun v => (⟨n, 2, v.k, v.i, v.t⟩ : Pr)) ⟨n, 6, K, lowest K, []⟩ = [⟨n, 6, K, lowest K, []⟩]) := by
     show _ = _
     unfold orP
     rw [if_pos (List.eq_nil_of_length_eq_zero (HTOT.out.trans ht0))]
    subst ht0
    clear HO5 HTOT
    go_wp2_with fail
    have hS0 : Blk wr.drew w.heap.size 29 #[.int .i64 K, .int .i64 lo, .int .i64 hi, .string ⟨#[]⟩, .string ⟨#[]⟩, .bool false, .slice A m c] := HX.out
    have hfld : ∀ W, (Instr.field 29 (spF K (lowest K) (highest K) [] [] false none 0 0) 1).run Try.prog W = .ok (.int .i64 (lowest K)) W := fun W => by kernel_rfl
    have hB0 := HB.out.drew
    have hsz : w.heap.size + 1 <= wr.drew.heap.size := hsr
    refine wp_region_held_drew (S := fun w' => Blk w' w.heap.size 29 #[.int .i64 K, .int .i64 lo, .int .i64 hi, .string ⟨#[]⟩, .string ⟨#[]⟩, .bool false, .slice A m c]) (by kernel_rfl) hS0 (fun _ => ?_)
    refine wpAnyH_yes (i := 0) (d := 57) (v := ?_) rfl rfl (by kernel_rfl) (by kernel_rfl) (by kernel_rfl) (fun _ _ _ h => h) (by rfl) ?_ hS0 ?_
    rotate_left
    ·intro w' hSw; obtain ⟨s0, s1, s2, s3, s4, s5, s6, _⟩ := blk7 hSw; go_simp <;> with_reducible rfl
    simp only [Act.put, List.setIfInBounds_toArray, List.set_cons_zero, List.set_cons_succ]
    refine wpAnyH_yes (i := 1) (d := 58) (v := ?_) rfl rfl (by kernel_rfl) (by kernel_rfl) (by kernel_rfl) (fun _ _ _ h => h) (by rfl) ?_ hS0 ?_
    rotate_left
    ·intro w' hSw; obtain ⟨s0, s1, s2, s3, s4, s5, s6, _⟩ := blk7 hSw; go_simp <;> with_reducible rfl
    simp only [Act.put, List.setIfInBounds_toArray, List.set_cons_zero, List.set_cons_succ]
    refine wpAnyH_yes (i := 2) (d := 59) (v := ?_) rfl rfl (by kernel_rfl) (by kernel_rfl) (by kernel_rfl) (fun _ _ _ h => h) (by rfl) ?_ hS0 ?_
    rotate_left
    ·intro w' hSw; obtain ⟨s0, s1, s2, s3, s4, s5, s6, _⟩ := blk7 hSw; go_simp <;> with_reducible rfl
    simp only [Act.put, List.setIfInBounds_toArray, List.set_cons_zero, List.set_cons_succ]
    refine wpAnyH_yes (i := 3) (d := 60) (v := ?_) rfl rfl (by kernel_rfl) (by kernel_rfl) (by kernel_rfl) (fun _ _ _ h => h) (by rfl) ?_ hS0 ?_
    rotate_left
    ·intro w' hSw; obtain ⟨s0, s1, s2, s3, s4, s5, s6, _⟩ := blk7 hSw; go_simp <;> with_reducible rfl
    simp only [Act.put, List.setIfInBounds_toArray, List.set_cons_zero, List.set_cons_succ]
    clear HX HB hsr
    generalize wr.drew = wd at *
    refine wpAnyH_pair (i := 4) (j := 7) (by kernel_rfl) rfl rfl (by rfl) (by rfl) (fun Ka hKa => ?_) (fun Ka hKa => ?_)
    ·go_simp
     with_reducible refine (wholeN_at K wd HK.out).mono ?_
     rintro e wf ⟨rfl, hgf⟩
     have hS1 := Blk.below hS0 hgf.below hS0.lt
     have hBf := below_next hB0 (Nat.le_refl _) hgf.below
     have hsf : w.heap.size + 1 <= wf.heap.size := hS1.lt
     go_wp2_with fail
     refine hKa.out _ _ hS1 ?_
     clear hKa Ka
     refine wpAnyH_yes (i := 5) (d := 62) (v := ?_) rfl rfl (by kernel_rfl) (by kernel_rfl) (by kernel_rfl) (fun _ _ _ h => h) (by rfl) ?_ hS1 ?_
     rotate_left
     ·intro w' hSw; go_simp <;> with_reducible rfl
     simp only [Act.put, List.setIfInBounds_toArray, List.set_cons_zero, List.set_cons_succ]
     refine wpAnyH_yes (i := 6) (d := 63) (v := ?_) rfl rfl (by kernel_rfl) (by kernel_rfl) (by kernel_rfl) (fun _ _ _ h => h) (by rfl) ?_ hS1 ?_
     rotate_left
     ·intro w' hSw; go_simp <;> with_reducible rfl
     simp only [Act.put, List.setIfInBounds_toArray, List.set_cons_zero, List.set_cons_succ]
     refine wpAnyH_one (i := 7) (by kernel_rfl) rfl (by rfl) (fun Ka hKa => ?_)
     go_simp
     refine hKa.out _ _ (Blk.alloc hS1 _) ?_
     clear hKa Ka
     refine wpAnyH_one (i := 8) (by kernel_rfl) rfl (by rfl) (fun Ka hKa => ?_)
     go_simp
     refine hKa.out _ _ (Blk.alloc hS1 _) ?_
     clear hKa Ka
     refine wpAnyH_done (by kernel_rfl) ?_ _
     go_wp2_with fail
     go_ret
     refine ⟨_, rfl, ?_, ?_⟩
     ·have h := own_litK layP (wf.alloc (.cells #[.int .i64 K, .int .i64 (lowest K), .string ⟨#[]⟩] 24)) w.heap.size (by simp; omega) ⟨n, 6, K, lowest K, []⟩ rfl
      rw [show (wf.alloc (.cells #[.int .i64 K, .int .i64 (lowest K), .string ⟨#[]⟩] 24)).heap.size = wf.heap.size + 1 by simp] at h
      rw [HEQ.out]
      exact h
     ·exact ((hBf.alloc hBf.size _).alloc (by simp; omega) _)
    ·go_simp
     have hbz : Below wd.heap.size wd (wd.alloc (.cells #[.int .i64 0, .int .i64 0, .string ⟨#[]⟩] 24)) := (Below.refl _ _).alloc (Nat.le_refl _) _
     have hS1 := Blk.below hS0 hbz hS0.lt
     have hBz := below_next hB0 (Nat.le_refl _) hbz
     have hQz := Blk.new wd 24 #[.int .i64 0, .int .i64 0, .string ⟨#[]⟩]
     refine hKa.out _ _ hS1 ?_
     clear hKa Ka hbz
     generalize wd.alloc (.cells #[.int .i64 0, .int .i64 0, .string ⟨#[]⟩] 24) = we at *
     generalize wd.heap.size = Q at *
     refine wpAnyH_one (i := 4) (by kernel_rfl) rfl (by rfl) (fun Ka hKa => ?_)
     go_simp
     with_reducible refine (wholeN_at K we HK.out).mono ?_
     rintro e wf ⟨rfl, hgf⟩
     have hS2 := Blk.below hS1 hgf.below hS1.lt
     have hBf := below_next hBz (Nat.le_refl _) hgf.below
     have hQf := Blk.below hQz hgf.below hQz.lt
     go_wp2_with fail
     refine hKa.out _ _ hS2 ?_
     clear hKa Ka
     refine wpAnyH_yes (i := 5) (d := 62) (v := ?_) rfl rfl (by kernel_rfl) (by kernel_rfl) (by kernel_rfl) (fun _ _ _ h => h) (by rfl) ?_ hS2 ?_
     rotate_left
     ·intro w' hSw; go_simp <;> with_reducible rfl
     simp only [Act.put, List.setIfInBounds_toArray, List.set_cons_zero, List.set_cons_succ]
     refine wpAnyH_yes (i := 6) (d := 63) (v := ?_) rfl rfl (by kernel_rfl) (by kernel_rfl) (by kernel_rfl) (fun _ _ _ h => h) (by rfl) ?_ hS2 ?_
     rotate_left
     ·intro w' hSw; go_simp <;> with_reducible rfl
     simp only [Act.put, List.setIfInBounds_toArray, List.set_cons_zero, List.set_cons_succ]
     obtain ⟨z0, z1, z2, y0, y1, y2⟩ := blk3 hQf
     have hlq := hQf.lt
     refine wpAnyH_one (i := 8) (by kernel_rfl) rfl (by rfl) (fun Ka hKa => ?_)
     go_simp
     refine hKa.out _ _ (Blk.far (Blk.far (Blk.far hS2 (by show w.heap.size ≠ Q; omega) _) (by show w.heap.size ≠ Q; omega) _) (by show w.heap.size ≠ Q; omega) _) ?_
     clear hKa Ka
     refine wpAnyH_done (by kernel_rfl) ?_ _
     have hsf : w.heap.size + 1 <= wf.heap.size := hS2.lt
     go_wp2_with fail
     go_ret
     refine ⟨_, rfl, ?_, ?_⟩
     ·have h := own_litK layP (((wf.setCell ⟨Q, 0, none⟩ (.int .i64 K)).setCell ⟨Q, 1, none⟩ (.int .i64 (lowest K))).setCell ⟨Q, 2, none⟩ (.string ⟨#[]⟩)) w.heap.size (by simp; omega) ⟨n, 6, K, lowest K, []⟩ rfl
      rw [show (((wf.setCell ⟨Q, 0, none⟩ (.int .i64 K)).setCell ⟨Q, 1, none⟩ (.int .i64 (lowest K))).setCell ⟨Q, 2, none⟩ (.string ⟨#[]⟩)).heap.size = wf.heap.size by simp] at h
      rw [HEQ.out]
      exact h
     ·exact Below.alloc (below_set (below_set (below_set hBf (by omega)) (by omega)) (by omega)) (by simp; omega) _
   ·have HEQ : Hid (orP (l ++ es.map fun v => (⟨n, 2, v.k, v.i, v.t⟩ : Pr)) ⟨n, 6, K, lowest K, []⟩ = l ++ es.map fun v => (⟨n, 2, v.k, v.i, v.t⟩ : Pr)) := by
     show _ = _
     unfold orP
     rw [if_neg (fun h => ht0 (by rw [<- HTOT.out, h]; rfl))]
    have vt : ((tot : Int) == 0) = false := beq_eq_false_iff_ne.2 (by omega)
    have vt2 : ¬ tot = 0 := ht0
    go_wp2_with fail
    go_ret
    exact ⟨_, rfl, by rw [HEQ.out]; exact HO5.out.less (by omega), HB.out⟩
set_option maxRecDepth 100000 in
set_option maxHeartbeats 8000000 in
theorem prsO_more (n : List UInt8) (f t : List UInt8) (hf : f.length <= 1000) (ht : t.length <= 1000) (A : Option Addr) (m c : Nat) (es : List Val) (w : World) (l1 l2 : List Pr) (hl1 : (if f = [] then [] else [teP n f 6 5]) = l1) (hl2 : (if true then [] else [teP n t 3 4]) = l2) (hn : n.length <= 9223372036854775807) (hr : Preds.right n 8 0 0 [] = true) (hm : es.length = m) (hmm : m <= 10000) (hes : RdW w A es) :
  Calls Try.prog 16 #[.string ⟨n.toArray⟩, .agg #[.int .i64 2, .int .i64 0, .int .i64 0, .string ⟨f.toArray⟩, .string ⟨t.toArray⟩, .bool true, .slice A m c]] w (GivesQ w (orP (l1 ++ l2 ++ es.map fun v => (⟨n, 2, v.k, v.i, v.t⟩ : Pr)) ⟨n, 6, 2, 0, []⟩)) := by
 have HLen0 : Hid (l1.length + l2.length <= 1000) := by
  show l1.length + l2.length <= 1000
  rw [<- hl1, <- hl2]
  split <;> simp
 have HR := Lib.hid hr
 have HL1 := Lib.hid hl1
 have HL2 := Lib.hid hl2
 have HM := Lib.hid hm
 have HES := Lib.hid hes
 clear hr hl1 hl2 hm hes
 have hX := (Blk.new w 29 #[.int .i64 2, .int .i64 0, .int .i64 0, .string ⟨f.toArray⟩, .string ⟨t.toArray⟩, .bool true, .slice A m c]).alloc (.cells #[.string ⟨n.toArray⟩, .int .i64 8, .int .i64 0, .int .i64 0, .string ⟨#[]⟩] 38)
 have hE := Blk.new (w.alloc (.cells #[.int .i64 2, .int .i64 0, .int .i64 0, .string ⟨f.toArray⟩, .string ⟨t.toArray⟩, .bool true, .slice A m c] 29)) 38 #[.string ⟨n.toArray⟩, .int .i64 8, .int .i64 0, .int .i64 0, .string ⟨#[]⟩]
 rw [show (w.alloc (.cells #[.int .i64 2, .int .i64 0, .int .i64 0, .string ⟨f.toArray⟩, .string ⟨t.toArray⟩, .bool true, .slice A m c] 29)).heap.size = w.heap.size + 1 by simp] at hE
 have hW : Below w.heap.size w ((w.alloc (.cells #[.int .i64 2, .int .i64 0, .int .i64 0, .string ⟨f.toArray⟩, .string ⟨t.toArray⟩, .bool true, .slice A m c] 29)).alloc (.cells #[.string ⟨n.toArray⟩, .int .i64 8, .int .i64 0, .int .i64 0, .string ⟨#[]⟩] 38)) := (gr2 w _ _).below
 have hs0 : ((w.alloc (.cells #[.int .i64 2, .int .i64 0, .int .i64 0, .string ⟨f.toArray⟩, .string ⟨t.toArray⟩, .bool true, .slice A m c] 29)).alloc (.cells #[.string ⟨n.toArray⟩, .int .i64 8, .int .i64 0, .int .i64 0, .string ⟨#[]⟩] 38)).heap.size = w.heap.size + 2 := by simp
 obtain ⟨l, hll⟩ : ∃ l, l1 ++ l2 = l := ⟨_, rfl⟩
 have HLL := Lib.hid hll
 have HLen : Hid (l.length <= 1000) := by show l.length <= 1000; rw [<- HLL.out, List.length_append]; exact HLen0.out
 rw [HLL.out]
 clear hll
 go_enter Try.func16, Try.ntmps16
 go_wp2_with fail
 generalize ((w.alloc (.cells #[.int .i64 2, .int .i64 0, .int .i64 0, .string ⟨f.toArray⟩, .string ⟨t.toArray⟩, .bool true, .slice A m c] 29)).alloc (.cells #[.string ⟨n.toArray⟩, .int .i64 8, .int .i64 0, .int .i64 0, .string ⟨#[]⟩] 38)) = w0 at *
 refine (pright_is n 8 0 0 [] w0 hn (by simp) true HR.out).mono ?_
 rintro e w1 ⟨rfl, hb1⟩
 have hX1 := Blk.below hX hb1 hX.lt
 obtain ⟨a0, a1, a2, a3, a4, a5, a6, _⟩ := blk7 hX1
 have hlx1 := hX1.lt
 have hB1 := below_next hW (Nat.le_refl _) hb1
 clear hX hE hW hb1
 go_wp2_with fail
 refine (onlyO_at f t hf A m c w1).mono ?_
 rintro e w2 ⟨rfl, hb2⟩
 have hX2 := Blk.below hX1 hb2 hX1.lt
 have hB2 := below_next hB1 (Nat.le_refl _) hb2
 clear a0 a1 a2 a3 a4 a5 a6 hlx1 hX1 hB1 hb2
 obtain ⟨a0, a1, a2, a3, a4, a5, a6, _⟩ := blk7 hX2
 have hlx2 := hX2.lt
 have hs2 : w.heap.size + 1 <= w2.heap.size := hlx2
 have hb3 : Below w2.heap.size w2 (w2.alloc (.cells #[.int .i64 2, .int .i64 0, .string ⟨f.toArray⟩] 24)) := (Below.refl _ _).alloc (Nat.le_refl _) _
 have hX3 := Blk.below hX2 hb3 hX2.lt
 have hB3 := below_next hB2 (Nat.le_refl _) hb3
 have hs3 : w.heap.size + 1 <= (w2.alloc (.cells #[.int .i64 2, .int .i64 0, .string ⟨f.toArray⟩] 24)).heap.size := by simp; omega
 go_wp2_with fail
 generalize (w2.alloc (.cells #[.int .i64 2, .int .i64 0, .string ⟨f.toArray⟩] 24)) = w3 at *
 clear a0 a1 a2 a3 a4 a5 a6 hlx2 hX2 hB2 hb3
 refine (endsT_at n f t true A m c hf ht w3 l1 l2 HL1.out HL2.out).mono ?_
 rintro e w4 ⟨v4, rfl, ho4, hb4⟩
 rw [HLL.out] at ho4
 have hX4 := Blk.below hX3 hb4 hX3.lt
 have hB4 := below_next hB3 (Nat.le_refl _) hb4
 have hs4 : w.heap.size + 1 <= w4.heap.size := Nat.le_trans hs3 hb4.size
 have HO4 := Lib.hid (ho4.less hs3)
 obtain ⟨a0, a1, a2, a3, a4, a5, a6, _⟩ := blk7 hX4
 have hlx4 := hX4.lt
 clear hX3 hB3 hb4 ho4
 go_wp2_with fail
 clear a0 a1 a2 a3 a4 a5 a6 hlx4
 have HX4 := Lib.hid hX4
 have HB4 := Lib.hid hB4
 clear hX4 hB4
 go_loopg [8, 43] m (fun gg s8 s43 wr => ∃ k : Nat, k <= m /\ m - k <= gg /\ s43 = .int .i64 (k : Int) /\ w.heap.size + 1 <= wr.heap.size /\ Hid (OwnQ wr (w.heap.size + 1) s8 (l ++ (es.take k).map fun v => (⟨n, 2, v.k, v.i, v.t⟩ : Pr))) /\ Hid (Blk wr w.heap.size 29 #[.int .i64 2, .int .i64 0, .int .i64 0, .string ⟨f.toArray⟩, .string ⟨t.toArray⟩, .bool true, .slice A m c]) /\ Hid (Below w.heap.size w wr))
 case atStart => exact ⟨0, Nat.zero_le _, by omega, rfl, hs4, by show OwnQ _ _ _ _; simpa using HO4.out, HX4, HB4⟩
 case round =>
  obtain ⟨k, hk, hgg, rfl, hsr, HO, HX, HB⟩ := hrel
  clear HO4 HX4 HB4
  by_cases hlt : k < m
  ·have hk' : k < es.length := by rw [HM.out]; exact hlt
   obtain ⟨g, off, rfl, hg, c0, c1, c2⟩ := RdW.at3 (RdK.below HES.out HB.out) hk'
   obtain ⟨x, hx⟩ : ∃ x, es[k] = x := ⟨_, rfl⟩
   have HXX := Lib.hid hx
   rw [hx] at c0 c1 c2
   clear hx
   obtain ⟨xk, xi, xt⟩ := x
   have w5 : (k : Int) < (m : Int) := by omega
   have hbv : Below wr.heap.size wr (wr.alloc (.cells #[.int .i64 xk, .int .i64 xi, .string ⟨xt.toArray⟩] 24)) := (Below.refl _ _).alloc (Nat.le_refl _) _
   have ho6 := OwnK.below HO.out hbv
   have hX6 := Blk.below HX.out hbv HX.out.lt
   have hB6 := below_next HB.out (Nat.le_refl _) hbv
   have hlen : (l ++ (es.take k).map fun v => (⟨n, 2, v.k, v.i, v.t⟩ : Pr)).length <= 1002 + m := by
    rw [List.length_append, List.length_map, List.length_take]
    have := HLen.out
    omega
   have HLen2 := Lib.hid hlen
   clear hlen
   have HQ : Hid ((l ++ (es.take k).map fun v => (⟨n, 2, v.k, v.i, v.t⟩ : Pr)) ++ [⟨n, 2, xk, xi, xt⟩] = l ++ (es.take (k + 1)).map fun v => (⟨n, 2, v.k, v.i, v.t⟩ : Pr)) := by
    show _ = _
    rw [List.take_succ_eq_append_getElem hk', HXX.out]
    simp
   generalize hL : (l ++ (es.take k).map fun v => (⟨n, 2, v.k, v.i, v.t⟩ : Pr)) = lk at *
   clear hL
   go_wp2_with (at_builtin; refine wpList_append_k layP (by rfl) (.tmp 47) (.tmp 51) 22 underQ rfl (w.heap.size + 1) _ lk (by rfl) (OwnK.below ho6 ((Below.refl _ _).alloc (Nat.le_refl _) _)) _ [⟨n, 2, xk, xi, xt⟩] 1 1 (by rfl) (by have h := rdk_one layP (wr.alloc (.cells #[.int .i64 xk, .int .i64 xi, .string ⟨xt.toArray⟩] 24)) ⟨n, 2, xk, xi, xt⟩ 38 _ rfl; rw [show (wr.alloc (.cells #[.int .i64 xk, .int .i64 xi, .string ⟨xt.toArray⟩] 24)).heap.size = wr.heap.size + 1 by simp] at h; exact h) rfl (by rw [maxLen_num]; have := HLen2.out; omega) (by show (lk.length + 1) * 56 <= _; have := HLen2.out; omega) (by simp; omega) ?_; intro v7 w7 o7 b7 gg7 _; have hX7 := Blk.below (Blk.alloc hX6 _) (b7 _ (Below.refl _ _)) (by omega); have hB7 := (below_next hB6 (Nat.le_refl _) ((Below.refl _ _).alloc (Nat.le_refl _) _)).trans ((b7 _ (Below.refl _ _)).mono (by omega)); have hs7 := Below.size (b7 _ (Below.refl _ _)); clear b7 gg7; rw [HQ.out] at o7; have HO7 := Lib.hid o7; have HX7 := Lib.hid hX7; have HB7 := Lib.hid hB7; clear o7 hX7 hB7 c0 c1 c2)
   go_roundg (m - (k + 1))
   case measure => omega
   case rel => exact ⟨k + 1, by omega, Nat.le_refl _, by go_num, by simp at hs7; omega, HO7, HX7, HB7⟩
  ·have hkn : Hid (k = m) := by show k = m; omega
   have hO5 := HO.out
   rw [hkn.out, List.take_of_length_le (by rw [HM.out]; exact Nat.le_refl _)] at hO5
   have HO5 := Lib.hid hO5
   clear HO
   obtain ⟨tot, htot⟩ : ∃ tot, (l ++ es.map fun v => (⟨n, 2, v.k, v.i, v.t⟩ : Pr)).length = tot := ⟨_, rfl⟩
   have HTOT := Lib.hid htot
   obtain ⟨B5, c5, rfl, hc5, hr5⟩ := OwnK.form hO5 htot
   clear htot hO5 hr5
   by_cases ht0 : tot = 0
   ·have HEQ : Hid (orP (l ++ es.map fun v => (⟨n, 2, v.k, v.i, v.t⟩ : Pr)) ⟨n, 6, 2, 0, []⟩ = [⟨n, 6, 2, 0, []⟩]) := by
     show _ = _
     unfold orP
     rw [if_pos (List.eq_nil_of_length_eq_zero (HTOT.out.trans ht0))]
    subst ht0
    clear HO5 HTOT
    go_wp2_with fail
    have hS0 : Blk wr.drew w.heap.size 29 #[.int .i64 2, .int .i64 0, .int .i64 0, .string ⟨f.toArray⟩, .string ⟨t.toArray⟩, .bool true, .slice A m c] := HX.out
    have hfld : ∀ W, (Instr.field 29 (spF 2 (0) (0) [] [] true none 0 0) 1).run Try.prog W = .ok (.int .i64 (0)) W := fun W => by kernel_rfl
    have hB0 := HB.out.drew
    have hsz : w.heap.size + 1 <= wr.drew.heap.size := hsr
    refine wp_region_held_drew (S := fun w' => Blk w' w.heap.size 29 #[.int .i64 2, .int .i64 0, .int .i64 0, .string ⟨f.toArray⟩, .string ⟨t.toArray⟩, .bool true, .slice A m c]) (by kernel_rfl) hS0 (fun _ => ?_)
    refine wpAnyH_yes (i := 0) (d := 57) (v := ?_) rfl rfl (by kernel_rfl) (by kernel_rfl) (by kernel_rfl) (fun _ _ _ h => h) (by rfl) ?_ hS0 ?_
    rotate_left
    ·intro w' hSw; obtain ⟨s0, s1, s2, s3, s4, s5, s6, _⟩ := blk7 hSw; go_simp <;> with_reducible rfl
    simp only [Act.put, List.setIfInBounds_toArray, List.set_cons_zero, List.set_cons_succ]
    refine wpAnyH_yes (i := 1) (d := 58) (v := ?_) rfl rfl (by kernel_rfl) (by kernel_rfl) (by kernel_rfl) (fun _ _ _ h => h) (by rfl) ?_ hS0 ?_
    rotate_left
    ·intro w' hSw; obtain ⟨s0, s1, s2, s3, s4, s5, s6, _⟩ := blk7 hSw; go_simp <;> with_reducible rfl
    simp only [Act.put, List.setIfInBounds_toArray, List.set_cons_zero, List.set_cons_succ]
    refine wpAnyH_yes (i := 2) (d := 59) (v := ?_) rfl rfl (by kernel_rfl) (by kernel_rfl) (by kernel_rfl) (fun _ _ _ h => h) (by rfl) ?_ hS0 ?_
    rotate_left
    ·intro w' hSw; obtain ⟨s0, s1, s2, s3, s4, s5, s6, _⟩ := blk7 hSw; go_simp <;> with_reducible rfl
    simp only [Act.put, List.setIfInBounds_toArray, List.set_cons_zero, List.set_cons_succ]
    refine wpAnyH_yes (i := 3) (d := 60) (v := ?_) rfl rfl (by kernel_rfl) (by kernel_rfl) (by kernel_rfl) (fun _ _ _ h => h) (by rfl) ?_ hS0 ?_
    rotate_left
    ·intro w' hSw; obtain ⟨s0, s1, s2, s3, s4, s5, s6, _⟩ := blk7 hSw; go_simp <;> with_reducible rfl
    simp only [Act.put, List.setIfInBounds_toArray, List.set_cons_zero, List.set_cons_succ]
    clear HX HB hsr
    generalize wr.drew = wd at *
    refine wpAnyH_pair (i := 4) (j := 7) (by kernel_rfl) rfl rfl (by rfl) (by rfl) (fun Ka hKa => ?_) (fun Ka hKa => ?_)
    ·go_simp
     with_reducible refine (wholeT_at wd).mono ?_
     rintro e wf ⟨rfl, hgf⟩
     have hS1 := Blk.below hS0 hgf.below hS0.lt
     have hBf := below_next hB0 (Nat.le_refl _) hgf.below
     have hsf : w.heap.size + 1 <= wf.heap.size := hS1.lt
     go_wp2_with fail
     refine hKa.out _ _ hS1 ?_
     clear hKa Ka
     refine wpAnyH_yes (i := 5) (d := 62) (v := ?_) rfl rfl (by kernel_rfl) (by kernel_rfl) (by kernel_rfl) (fun _ _ _ h => h) (by rfl) ?_ hS1 ?_
     rotate_left
     ·intro w' hSw; go_simp <;> with_reducible rfl
     simp only [Act.put, List.setIfInBounds_toArray, List.set_cons_zero, List.set_cons_succ]
     refine wpAnyH_yes (i := 6) (d := 63) (v := ?_) rfl rfl (by kernel_rfl) (by kernel_rfl) (by kernel_rfl) (fun _ _ _ h => h) (by rfl) ?_ hS1 ?_
     rotate_left
     ·intro w' hSw; go_simp <;> with_reducible rfl
     simp only [Act.put, List.setIfInBounds_toArray, List.set_cons_zero, List.set_cons_succ]
     refine wpAnyH_one (i := 7) (by kernel_rfl) rfl (by rfl) (fun Ka hKa => ?_)
     go_simp
     refine hKa.out _ _ (Blk.alloc hS1 _) ?_
     clear hKa Ka
     refine wpAnyH_one (i := 8) (by kernel_rfl) rfl (by rfl) (fun Ka hKa => ?_)
     go_simp
     refine hKa.out _ _ (Blk.alloc hS1 _) ?_
     clear hKa Ka
     refine wpAnyH_done (by kernel_rfl) ?_ _
     go_wp2_with fail
     go_ret
     refine ⟨_, rfl, ?_, ?_⟩
     ·have h := own_litK layP (wf.alloc (.cells #[.int .i64 2, .int .i64 (0), .string ⟨#[]⟩] 24)) w.heap.size (by simp; omega) ⟨n, 6, 2, 0, []⟩ rfl
      rw [show (wf.alloc (.cells #[.int .i64 2, .int .i64 (0), .string ⟨#[]⟩] 24)).heap.size = wf.heap.size + 1 by simp] at h
      rw [HEQ.out]
      exact h
     ·exact ((hBf.alloc hBf.size _).alloc (by simp; omega) _)
    ·go_simp
     have hbz : Below wd.heap.size wd (wd.alloc (.cells #[.int .i64 0, .int .i64 0, .string ⟨#[]⟩] 24)) := (Below.refl _ _).alloc (Nat.le_refl _) _
     have hS1 := Blk.below hS0 hbz hS0.lt
     have hBz := below_next hB0 (Nat.le_refl _) hbz
     have hQz := Blk.new wd 24 #[.int .i64 0, .int .i64 0, .string ⟨#[]⟩]
     refine hKa.out _ _ hS1 ?_
     clear hKa Ka hbz
     generalize wd.alloc (.cells #[.int .i64 0, .int .i64 0, .string ⟨#[]⟩] 24) = we at *
     generalize wd.heap.size = Q at *
     refine wpAnyH_one (i := 4) (by kernel_rfl) rfl (by rfl) (fun Ka hKa => ?_)
     go_simp
     with_reducible refine (wholeT_at we).mono ?_
     rintro e wf ⟨rfl, hgf⟩
     have hS2 := Blk.below hS1 hgf.below hS1.lt
     have hBf := below_next hBz (Nat.le_refl _) hgf.below
     have hQf := Blk.below hQz hgf.below hQz.lt
     go_wp2_with fail
     refine hKa.out _ _ hS2 ?_
     clear hKa Ka
     refine wpAnyH_yes (i := 5) (d := 62) (v := ?_) rfl rfl (by kernel_rfl) (by kernel_rfl) (by kernel_rfl) (fun _ _ _ h => h) (by rfl) ?_ hS2 ?_
     rotate_left
     ·intro w' hSw; go_simp <;> with_reducible rfl
     simp only [Act.put, List.setIfInBounds_toArray, List.set_cons_zero, List.set_cons_succ]
     refine wpAnyH_yes (i := 6) (d := 63) (v := ?_) rfl rfl (by kernel_rfl) (by kernel_rfl) (by kernel_rfl) (fun _ _ _ h => h) (by rfl) ?_ hS2 ?_
     rotate_left
     ·intro w' hSw; go_simp <;> with_reducible rfl
     simp only [Act.put, List.setIfInBounds_toArray, List.set_cons_zero, List.set_cons_succ]
     obtain ⟨z0, z1, z2, y0, y1, y2⟩ := blk3 hQf
     have hlq := hQf.lt
     refine wpAnyH_one (i := 8) (by kernel_rfl) rfl (by rfl) (fun Ka hKa => ?_)
     go_simp
     refine hKa.out _ _ (Blk.far (Blk.far (Blk.far hS2 (by show w.heap.size ≠ Q; omega) _) (by show w.heap.size ≠ Q; omega) _) (by show w.heap.size ≠ Q; omega) _) ?_
     clear hKa Ka
     refine wpAnyH_done (by kernel_rfl) ?_ _
     have hsf : w.heap.size + 1 <= wf.heap.size := hS2.lt
     go_wp2_with fail
     go_ret
     refine ⟨_, rfl, ?_, ?_⟩
     ·have h := own_litK layP (((wf.setCell ⟨Q, 0, none⟩ (.int .i64 2)).setCell ⟨Q, 1, none⟩ (.int .i64 (0))).setCell ⟨Q, 2, none⟩ (.string ⟨#[]⟩)) w.heap.size (by simp; omega) ⟨n, 6, 2, 0, []⟩ rfl
      rw [show (((wf.setCell ⟨Q, 0, none⟩ (.int .i64 2)).setCell ⟨Q, 1, none⟩ (.int .i64 (0))).setCell ⟨Q, 2, none⟩ (.string ⟨#[]⟩)).heap.size = wf.heap.size by simp] at h
      rw [HEQ.out]
      exact h
     ·exact Below.alloc (below_set (below_set (below_set hBf (by omega)) (by omega)) (by omega)) (by simp; omega) _
   ·have HEQ : Hid (orP (l ++ es.map fun v => (⟨n, 2, v.k, v.i, v.t⟩ : Pr)) ⟨n, 6, 2, 0, []⟩ = l ++ es.map fun v => (⟨n, 2, v.k, v.i, v.t⟩ : Pr)) := by
     show _ = _
     unfold orP
     rw [if_neg (fun h => ht0 (by rw [<- HTOT.out, h]; rfl))]
    have vt : ((tot : Int) == 0) = false := beq_eq_false_iff_ne.2 (by omega)
    have vt2 : ¬ tot = 0 := ht0
    go_wp2_with fail
    go_ret
    exact ⟨_, rfl, by rw [HEQ.out]; exact HO5.out.less (by omega), HB.out⟩
set_option maxRecDepth 100000 in
set_option maxHeartbeats 8000000 in
theorem prsT_one (n : List UInt8) (f t : List UInt8) (hf : f.length <= 1000) (_ht : t.length <= 1000) (A : Option Addr) (m c : Nat) (es : List Val) (w : World) (l1 l2 : List Pr) (hl1 : (if f = [] then [] else [teP n f 6 5]) = l1) (hl2 : (if false then [] else [teP n t 3 4]) = l2) (hn : n.length <= 9223372036854775807) (hr : Preds.right n 8 0 0 [] = true) (hm : es.length = m) (_hmm : m <= 10000) (hes : RdW w A es) (hone : t = f ++ [0]) :
  Calls Try.prog 16 #[.string ⟨n.toArray⟩, .agg #[.int .i64 2, .int .i64 0, .int .i64 0, .string ⟨f.toArray⟩, .string ⟨t.toArray⟩, .bool false, .slice A m c]] w (GivesQ w [⟨n, 1, 2, 0, f⟩]) := by
 have HLen0 : Hid (l1.length + l2.length <= 1000) := by
  show l1.length + l2.length <= 1000
  rw [<- hl1, <- hl2]
  split <;> simp
 have HONE := Lib.hid hone
 clear hone
 have HR := Lib.hid hr
 have HL1 := Lib.hid hl1
 have HL2 := Lib.hid hl2
 have HM := Lib.hid hm
 have HES := Lib.hid hes
 clear hr hl1 hl2 hm hes
 have hX := (Blk.new w 29 #[.int .i64 2, .int .i64 0, .int .i64 0, .string ⟨f.toArray⟩, .string ⟨t.toArray⟩, .bool false, .slice A m c]).alloc (.cells #[.string ⟨n.toArray⟩, .int .i64 8, .int .i64 0, .int .i64 0, .string ⟨#[]⟩] 38)
 have hE := Blk.new (w.alloc (.cells #[.int .i64 2, .int .i64 0, .int .i64 0, .string ⟨f.toArray⟩, .string ⟨t.toArray⟩, .bool false, .slice A m c] 29)) 38 #[.string ⟨n.toArray⟩, .int .i64 8, .int .i64 0, .int .i64 0, .string ⟨#[]⟩]
 rw [show (w.alloc (.cells #[.int .i64 2, .int .i64 0, .int .i64 0, .string ⟨f.toArray⟩, .string ⟨t.toArray⟩, .bool false, .slice A m c] 29)).heap.size = w.heap.size + 1 by simp] at hE
 have hW : Below w.heap.size w ((w.alloc (.cells #[.int .i64 2, .int .i64 0, .int .i64 0, .string ⟨f.toArray⟩, .string ⟨t.toArray⟩, .bool false, .slice A m c] 29)).alloc (.cells #[.string ⟨n.toArray⟩, .int .i64 8, .int .i64 0, .int .i64 0, .string ⟨#[]⟩] 38)) := (gr2 w _ _).below
 have hs0 : ((w.alloc (.cells #[.int .i64 2, .int .i64 0, .int .i64 0, .string ⟨f.toArray⟩, .string ⟨t.toArray⟩, .bool false, .slice A m c] 29)).alloc (.cells #[.string ⟨n.toArray⟩, .int .i64 8, .int .i64 0, .int .i64 0, .string ⟨#[]⟩] 38)).heap.size = w.heap.size + 2 := by simp
 obtain ⟨l, hll⟩ : ∃ l, l1 ++ l2 = l := ⟨_, rfl⟩
 have HLL := Lib.hid hll
 have HLen : Hid (l.length <= 1000) := by show l.length <= 1000; rw [<- HLL.out, List.length_append]; exact HLen0.out
 clear hll
 go_enter Try.func16, Try.ntmps16
 go_wp2_with fail
 generalize ((w.alloc (.cells #[.int .i64 2, .int .i64 0, .int .i64 0, .string ⟨f.toArray⟩, .string ⟨t.toArray⟩, .bool false, .slice A m c] 29)).alloc (.cells #[.string ⟨n.toArray⟩, .int .i64 8, .int .i64 0, .int .i64 0, .string ⟨#[]⟩] 38)) = w0 at *
 refine (pright_is n 8 0 0 [] w0 hn (by simp) true HR.out).mono ?_
 rintro e w1 ⟨rfl, hb1⟩
 have hX1 := Blk.below hX hb1 hX.lt
 obtain ⟨a0, a1, a2, a3, a4, a5, a6, _⟩ := blk7 hX1
 have hlx1 := hX1.lt
 have hB1 := below_next hW (Nat.le_refl _) hb1
 clear hX hE hW hb1
 go_wp2_with fail
 refine (onlyT_at f t hf A m c w1).mono ?_
 rintro e w2 ⟨rfl, hb2⟩
 have hX2 := Blk.below hX1 hb2 hX1.lt
 have hB2 := below_next hB1 (Nat.le_refl _) hb2
 clear a0 a1 a2 a3 a4 a5 a6 hlx1 hX1 hB1 hb2
 obtain ⟨a0, a1, a2, a3, a4, a5, a6, _⟩ := blk7 hX2
 have hlx2 := hX2.lt
 have hs2 : w.heap.size + 1 <= w2.heap.size := hlx2
 have v1 : (t == f ++ [0]) = true := beq_iff_eq.2 HONE.out
 rw [v1]
 clear v1
 go_wp2_with fail
 go_ret
 refine ⟨_, rfl, ?_, (hB2.alloc hB2.size _).alloc (by simp; have := hB2.size; omega) _⟩
 have h := own_litK layP (w2.alloc (.cells #[.int .i64 2, .int .i64 0, .string ⟨f.toArray⟩] 24)) w.heap.size (by simp; omega) ⟨n, 1, 2, 0, f⟩ rfl
 rw [show (w2.alloc (.cells #[.int .i64 2, .int .i64 0, .string ⟨f.toArray⟩] 24)).heap.size = w2.heap.size + 1 by simp] at h
 exact h
set_option maxRecDepth 100000 in
set_option maxHeartbeats 8000000 in
theorem prsT_more (n : List UInt8) (f t : List UInt8) (hf : f.length <= 1000) (ht : t.length <= 1000) (A : Option Addr) (m c : Nat) (es : List Val) (w : World) (l1 l2 : List Pr) (hl1 : (if f = [] then [] else [teP n f 6 5]) = l1) (hl2 : (if false then [] else [teP n t 3 4]) = l2) (hn : n.length <= 9223372036854775807) (hr : Preds.right n 8 0 0 [] = true) (hm : es.length = m) (hmm : m <= 10000) (hes : RdW w A es) (hone : ¬ t = f ++ [0]) :
  Calls Try.prog 16 #[.string ⟨n.toArray⟩, .agg #[.int .i64 2, .int .i64 0, .int .i64 0, .string ⟨f.toArray⟩, .string ⟨t.toArray⟩, .bool false, .slice A m c]] w (GivesQ w (orP (l1 ++ l2 ++ es.map fun v => (⟨n, 2, v.k, v.i, v.t⟩ : Pr)) ⟨n, 6, 2, 0, []⟩)) := by
 have HLen0 : Hid (l1.length + l2.length <= 1000) := by
  show l1.length + l2.length <= 1000
  rw [<- hl1, <- hl2]
  split <;> simp
 have HR := Lib.hid hr
 have HL1 := Lib.hid hl1
 have HL2 := Lib.hid hl2
 have HM := Lib.hid hm
 have HES := Lib.hid hes
 clear hr hl1 hl2 hm hes
 have hX := (Blk.new w 29 #[.int .i64 2, .int .i64 0, .int .i64 0, .string ⟨f.toArray⟩, .string ⟨t.toArray⟩, .bool false, .slice A m c]).alloc (.cells #[.string ⟨n.toArray⟩, .int .i64 8, .int .i64 0, .int .i64 0, .string ⟨#[]⟩] 38)
 have hE := Blk.new (w.alloc (.cells #[.int .i64 2, .int .i64 0, .int .i64 0, .string ⟨f.toArray⟩, .string ⟨t.toArray⟩, .bool false, .slice A m c] 29)) 38 #[.string ⟨n.toArray⟩, .int .i64 8, .int .i64 0, .int .i64 0, .string ⟨#[]⟩]
 rw [show (w.alloc (.cells #[.int .i64 2, .int .i64 0, .int .i64 0, .string ⟨f.toArray⟩, .string ⟨t.toArray⟩, .bool false, .slice A m c] 29)).heap.size = w.heap.size + 1 by simp] at hE
 have hW : Below w.heap.size w ((w.alloc (.cells #[.int .i64 2, .int .i64 0, .int .i64 0, .string ⟨f.toArray⟩, .string ⟨t.toArray⟩, .bool false, .slice A m c] 29)).alloc (.cells #[.string ⟨n.toArray⟩, .int .i64 8, .int .i64 0, .int .i64 0, .string ⟨#[]⟩] 38)) := (gr2 w _ _).below
 have hs0 : ((w.alloc (.cells #[.int .i64 2, .int .i64 0, .int .i64 0, .string ⟨f.toArray⟩, .string ⟨t.toArray⟩, .bool false, .slice A m c] 29)).alloc (.cells #[.string ⟨n.toArray⟩, .int .i64 8, .int .i64 0, .int .i64 0, .string ⟨#[]⟩] 38)).heap.size = w.heap.size + 2 := by simp
 obtain ⟨l, hll⟩ : ∃ l, l1 ++ l2 = l := ⟨_, rfl⟩
 have HLL := Lib.hid hll
 have HLen : Hid (l.length <= 1000) := by show l.length <= 1000; rw [<- HLL.out, List.length_append]; exact HLen0.out
 rw [HLL.out]
 clear hll
 go_enter Try.func16, Try.ntmps16
 go_wp2_with fail
 generalize ((w.alloc (.cells #[.int .i64 2, .int .i64 0, .int .i64 0, .string ⟨f.toArray⟩, .string ⟨t.toArray⟩, .bool false, .slice A m c] 29)).alloc (.cells #[.string ⟨n.toArray⟩, .int .i64 8, .int .i64 0, .int .i64 0, .string ⟨#[]⟩] 38)) = w0 at *
 refine (pright_is n 8 0 0 [] w0 hn (by simp) true HR.out).mono ?_
 rintro e w1 ⟨rfl, hb1⟩
 have hX1 := Blk.below hX hb1 hX.lt
 obtain ⟨a0, a1, a2, a3, a4, a5, a6, _⟩ := blk7 hX1
 have hlx1 := hX1.lt
 have hB1 := below_next hW (Nat.le_refl _) hb1
 clear hX hE hW hb1
 go_wp2_with fail
 refine (onlyT_at f t hf A m c w1).mono ?_
 rintro e w2 ⟨rfl, hb2⟩
 have hX2 := Blk.below hX1 hb2 hX1.lt
 have hB2 := below_next hB1 (Nat.le_refl _) hb2
 clear a0 a1 a2 a3 a4 a5 a6 hlx1 hX1 hB1 hb2
 obtain ⟨a0, a1, a2, a3, a4, a5, a6, _⟩ := blk7 hX2
 have hlx2 := hX2.lt
 have hs2 : w.heap.size + 1 <= w2.heap.size := hlx2
 have v1 : (t == f ++ [0]) = false := beq_eq_false_iff_ne.2 hone
 rw [v1]
 have hb3 : Below w2.heap.size w2 (w2.alloc (.cells #[.int .i64 2, .int .i64 0, .string ⟨f.toArray⟩] 24)) := (Below.refl _ _).alloc (Nat.le_refl _) _
 have hX3 := Blk.below hX2 hb3 hX2.lt
 have hB3 := below_next hB2 (Nat.le_refl _) hb3
 have hs3 : w.heap.size + 1 <= (w2.alloc (.cells #[.int .i64 2, .int .i64 0, .string ⟨f.toArray⟩] 24)).heap.size := by simp; omega
 go_wp2_with fail
 generalize (w2.alloc (.cells #[.int .i64 2, .int .i64 0, .string ⟨f.toArray⟩] 24)) = w3 at *
 clear a0 a1 a2 a3 a4 a5 a6 hlx2 hX2 hB2 hb3
 refine (endsT_at n f t false A m c hf ht w3 l1 l2 HL1.out HL2.out).mono ?_
 rintro e w4 ⟨v4, rfl, ho4, hb4⟩
 rw [HLL.out] at ho4
 have hX4 := Blk.below hX3 hb4 hX3.lt
 have hB4 := below_next hB3 (Nat.le_refl _) hb4
 have hs4 : w.heap.size + 1 <= w4.heap.size := Nat.le_trans hs3 hb4.size
 have HO4 := Lib.hid (ho4.less hs3)
 obtain ⟨a0, a1, a2, a3, a4, a5, a6, _⟩ := blk7 hX4
 have hlx4 := hX4.lt
 clear hX3 hB3 hb4 ho4
 go_wp2_with fail
 clear a0 a1 a2 a3 a4 a5 a6 hlx4
 have HX4 := Lib.hid hX4
 have HB4 := Lib.hid hB4
 clear hX4 hB4
 go_loopg [8, 43] m (fun gg s8 s43 wr => ∃ k : Nat, k <= m /\ m - k <= gg /\ s43 = .int .i64 (k : Int) /\ w.heap.size + 1 <= wr.heap.size /\ Hid (OwnQ wr (w.heap.size + 1) s8 (l ++ (es.take k).map fun v => (⟨n, 2, v.k, v.i, v.t⟩ : Pr))) /\ Hid (Blk wr w.heap.size 29 #[.int .i64 2, .int .i64 0, .int .i64 0, .string ⟨f.toArray⟩, .string ⟨t.toArray⟩, .bool false, .slice A m c]) /\ Hid (Below w.heap.size w wr))
 case atStart => exact ⟨0, Nat.zero_le _, by omega, rfl, hs4, by show OwnQ _ _ _ _; simpa using HO4.out, HX4, HB4⟩
 case round =>
  obtain ⟨k, hk, hgg, rfl, hsr, HO, HX, HB⟩ := hrel
  clear HO4 HX4 HB4
  by_cases hlt : k < m
  ·have hk' : k < es.length := by rw [HM.out]; exact hlt
   obtain ⟨g, off, rfl, hg, c0, c1, c2⟩ := RdW.at3 (RdK.below HES.out HB.out) hk'
   obtain ⟨x, hx⟩ : ∃ x, es[k] = x := ⟨_, rfl⟩
   have HXX := Lib.hid hx
   rw [hx] at c0 c1 c2
   clear hx
   obtain ⟨xk, xi, xt⟩ := x
   have w5 : (k : Int) < (m : Int) := by omega
   have hbv : Below wr.heap.size wr (wr.alloc (.cells #[.int .i64 xk, .int .i64 xi, .string ⟨xt.toArray⟩] 24)) := (Below.refl _ _).alloc (Nat.le_refl _) _
   have ho6 := OwnK.below HO.out hbv
   have hX6 := Blk.below HX.out hbv HX.out.lt
   have hB6 := below_next HB.out (Nat.le_refl _) hbv
   have hlen : (l ++ (es.take k).map fun v => (⟨n, 2, v.k, v.i, v.t⟩ : Pr)).length <= 1002 + m := by
    rw [List.length_append, List.length_map, List.length_take]
    have := HLen.out
    omega
   have HLen2 := Lib.hid hlen
   clear hlen
   have HQ : Hid ((l ++ (es.take k).map fun v => (⟨n, 2, v.k, v.i, v.t⟩ : Pr)) ++ [⟨n, 2, xk, xi, xt⟩] = l ++ (es.take (k + 1)).map fun v => (⟨n, 2, v.k, v.i, v.t⟩ : Pr)) := by
    show _ = _
    rw [List.take_succ_eq_append_getElem hk', HXX.out]
    simp
   generalize hL : (l ++ (es.take k).map fun v => (⟨n, 2, v.k, v.i, v.t⟩ : Pr)) = lk at *
   clear hL
   go_wp2_with (at_builtin; refine wpList_append_k layP (by rfl) (.tmp 47) (.tmp 51) 22 underQ rfl (w.heap.size + 1) _ lk (by rfl) (OwnK.below ho6 ((Below.refl _ _).alloc (Nat.le_refl _) _)) _ [⟨n, 2, xk, xi, xt⟩] 1 1 (by rfl) (by have h := rdk_one layP (wr.alloc (.cells #[.int .i64 xk, .int .i64 xi, .string ⟨xt.toArray⟩] 24)) ⟨n, 2, xk, xi, xt⟩ 38 _ rfl; rw [show (wr.alloc (.cells #[.int .i64 xk, .int .i64 xi, .string ⟨xt.toArray⟩] 24)).heap.size = wr.heap.size + 1 by simp] at h; exact h) rfl (by rw [maxLen_num]; have := HLen2.out; omega) (by show (lk.length + 1) * 56 <= _; have := HLen2.out; omega) (by simp; omega) ?_; intro v7 w7 o7 b7 gg7 _; have hX7 := Blk.below (Blk.alloc hX6 _) (b7 _ (Below.refl _ _)) (by omega); have hB7 := (below_next hB6 (Nat.le_refl _) ((Below.refl _ _).alloc (Nat.le_refl _) _)).trans ((b7 _ (Below.refl _ _)).mono (by omega)); have hs7 := Below.size (b7 _ (Below.refl _ _)); clear b7 gg7; rw [HQ.out] at o7; have HO7 := Lib.hid o7; have HX7 := Lib.hid hX7; have HB7 := Lib.hid hB7; clear o7 hX7 hB7 c0 c1 c2)
   go_roundg (m - (k + 1))
   case measure => omega
   case rel => exact ⟨k + 1, by omega, Nat.le_refl _, by go_num, by simp at hs7; omega, HO7, HX7, HB7⟩
  ·have hkn : Hid (k = m) := by show k = m; omega
   have hO5 := HO.out
   rw [hkn.out, List.take_of_length_le (by rw [HM.out]; exact Nat.le_refl _)] at hO5
   have HO5 := Lib.hid hO5
   clear HO
   obtain ⟨tot, htot⟩ : ∃ tot, (l ++ es.map fun v => (⟨n, 2, v.k, v.i, v.t⟩ : Pr)).length = tot := ⟨_, rfl⟩
   have HTOT := Lib.hid htot
   obtain ⟨B5, c5, rfl, hc5, hr5⟩ := OwnK.form hO5 htot
   clear htot hO5 hr5
   by_cases ht0 : tot = 0
   ·have HEQ : Hid (orP (l ++ es.map fun v => (⟨n, 2, v.k, v.i, v.t⟩ : Pr)) ⟨n, 6, 2, 0, []⟩ = [⟨n, 6, 2, 0, []⟩]) := by
     show _ = _
     unfold orP
     rw [if_pos (List.eq_nil_of_length_eq_zero (HTOT.out.trans ht0))]
    subst ht0
    clear HO5 HTOT
    go_wp2_with fail
    have hS0 : Blk wr.drew w.heap.size 29 #[.int .i64 2, .int .i64 0, .int .i64 0, .string ⟨f.toArray⟩, .string ⟨t.toArray⟩, .bool false, .slice A m c] := HX.out
    have hfld : ∀ W, (Instr.field 29 (spF 2 (0) (0) [] [] true none 0 0) 1).run Try.prog W = .ok (.int .i64 (0)) W := fun W => by kernel_rfl
    have hB0 := HB.out.drew
    have hsz : w.heap.size + 1 <= wr.drew.heap.size := hsr
    refine wp_region_held_drew (S := fun w' => Blk w' w.heap.size 29 #[.int .i64 2, .int .i64 0, .int .i64 0, .string ⟨f.toArray⟩, .string ⟨t.toArray⟩, .bool false, .slice A m c]) (by kernel_rfl) hS0 (fun _ => ?_)
    refine wpAnyH_yes (i := 0) (d := 57) (v := ?_) rfl rfl (by kernel_rfl) (by kernel_rfl) (by kernel_rfl) (fun _ _ _ h => h) (by rfl) ?_ hS0 ?_
    rotate_left
    ·intro w' hSw; obtain ⟨s0, s1, s2, s3, s4, s5, s6, _⟩ := blk7 hSw; go_simp <;> with_reducible rfl
    simp only [Act.put, List.setIfInBounds_toArray, List.set_cons_zero, List.set_cons_succ]
    refine wpAnyH_yes (i := 1) (d := 58) (v := ?_) rfl rfl (by kernel_rfl) (by kernel_rfl) (by kernel_rfl) (fun _ _ _ h => h) (by rfl) ?_ hS0 ?_
    rotate_left
    ·intro w' hSw; obtain ⟨s0, s1, s2, s3, s4, s5, s6, _⟩ := blk7 hSw; go_simp <;> with_reducible rfl
    simp only [Act.put, List.setIfInBounds_toArray, List.set_cons_zero, List.set_cons_succ]
    refine wpAnyH_yes (i := 2) (d := 59) (v := ?_) rfl rfl (by kernel_rfl) (by kernel_rfl) (by kernel_rfl) (fun _ _ _ h => h) (by rfl) ?_ hS0 ?_
    rotate_left
    ·intro w' hSw; obtain ⟨s0, s1, s2, s3, s4, s5, s6, _⟩ := blk7 hSw; go_simp <;> with_reducible rfl
    simp only [Act.put, List.setIfInBounds_toArray, List.set_cons_zero, List.set_cons_succ]
    refine wpAnyH_yes (i := 3) (d := 60) (v := ?_) rfl rfl (by kernel_rfl) (by kernel_rfl) (by kernel_rfl) (fun _ _ _ h => h) (by rfl) ?_ hS0 ?_
    rotate_left
    ·intro w' hSw; obtain ⟨s0, s1, s2, s3, s4, s5, s6, _⟩ := blk7 hSw; go_simp <;> with_reducible rfl
    simp only [Act.put, List.setIfInBounds_toArray, List.set_cons_zero, List.set_cons_succ]
    clear HX HB hsr
    generalize wr.drew = wd at *
    refine wpAnyH_pair (i := 4) (j := 7) (by kernel_rfl) rfl rfl (by rfl) (by rfl) (fun Ka hKa => ?_) (fun Ka hKa => ?_)
    ·go_simp
     with_reducible refine (wholeT_at wd).mono ?_
     rintro e wf ⟨rfl, hgf⟩
     have hS1 := Blk.below hS0 hgf.below hS0.lt
     have hBf := below_next hB0 (Nat.le_refl _) hgf.below
     have hsf : w.heap.size + 1 <= wf.heap.size := hS1.lt
     go_wp2_with fail
     refine hKa.out _ _ hS1 ?_
     clear hKa Ka
     refine wpAnyH_yes (i := 5) (d := 62) (v := ?_) rfl rfl (by kernel_rfl) (by kernel_rfl) (by kernel_rfl) (fun _ _ _ h => h) (by rfl) ?_ hS1 ?_
     rotate_left
     ·intro w' hSw; go_simp <;> with_reducible rfl
     simp only [Act.put, List.setIfInBounds_toArray, List.set_cons_zero, List.set_cons_succ]
     refine wpAnyH_yes (i := 6) (d := 63) (v := ?_) rfl rfl (by kernel_rfl) (by kernel_rfl) (by kernel_rfl) (fun _ _ _ h => h) (by rfl) ?_ hS1 ?_
     rotate_left
     ·intro w' hSw; go_simp <;> with_reducible rfl
     simp only [Act.put, List.setIfInBounds_toArray, List.set_cons_zero, List.set_cons_succ]
     refine wpAnyH_one (i := 7) (by kernel_rfl) rfl (by rfl) (fun Ka hKa => ?_)
     go_simp
     refine hKa.out _ _ (Blk.alloc hS1 _) ?_
     clear hKa Ka
     refine wpAnyH_one (i := 8) (by kernel_rfl) rfl (by rfl) (fun Ka hKa => ?_)
     go_simp
     refine hKa.out _ _ (Blk.alloc hS1 _) ?_
     clear hKa Ka
     refine wpAnyH_done (by kernel_rfl) ?_ _
     go_wp2_with fail
     go_ret
     refine ⟨_, rfl, ?_, ?_⟩
     ·have h := own_litK layP (wf.alloc (.cells #[.int .i64 2, .int .i64 (0), .string ⟨#[]⟩] 24)) w.heap.size (by simp; omega) ⟨n, 6, 2, 0, []⟩ rfl
      rw [show (wf.alloc (.cells #[.int .i64 2, .int .i64 (0), .string ⟨#[]⟩] 24)).heap.size = wf.heap.size + 1 by simp] at h
      rw [HEQ.out]
      exact h
     ·exact ((hBf.alloc hBf.size _).alloc (by simp; omega) _)
    ·go_simp
     have hbz : Below wd.heap.size wd (wd.alloc (.cells #[.int .i64 0, .int .i64 0, .string ⟨#[]⟩] 24)) := (Below.refl _ _).alloc (Nat.le_refl _) _
     have hS1 := Blk.below hS0 hbz hS0.lt
     have hBz := below_next hB0 (Nat.le_refl _) hbz
     have hQz := Blk.new wd 24 #[.int .i64 0, .int .i64 0, .string ⟨#[]⟩]
     refine hKa.out _ _ hS1 ?_
     clear hKa Ka hbz
     generalize wd.alloc (.cells #[.int .i64 0, .int .i64 0, .string ⟨#[]⟩] 24) = we at *
     generalize wd.heap.size = Q at *
     refine wpAnyH_one (i := 4) (by kernel_rfl) rfl (by rfl) (fun Ka hKa => ?_)
     go_simp
     with_reducible refine (wholeT_at we).mono ?_
     rintro e wf ⟨rfl, hgf⟩
     have hS2 := Blk.below hS1 hgf.below hS1.lt
     have hBf := below_next hBz (Nat.le_refl _) hgf.below
     have hQf := Blk.below hQz hgf.below hQz.lt
     go_wp2_with fail
     refine hKa.out _ _ hS2 ?_
     clear hKa Ka
     refine wpAnyH_yes (i := 5) (d := 62) (v := ?_) rfl rfl (by kernel_rfl) (by kernel_rfl) (by kernel_rfl) (fun _ _ _ h => h) (by rfl) ?_ hS2 ?_
     rotate_left
     ·intro w' hSw; go_simp <;> with_reducible rfl
     simp only [Act.put, List.setIfInBounds_toArray, List.set_cons_zero, List.set_cons_succ]
     refine wpAnyH_yes (i := 6) (d := 63) (v := ?_) rfl rfl (by kernel_rfl) (by kernel_rfl) (by kernel_rfl) (fun _ _ _ h => h) (by rfl) ?_ hS2 ?_
     rotate_left
     ·intro w' hSw; go_simp <;> with_reducible rfl
     simp only [Act.put, List.setIfInBounds_toArray, List.set_cons_zero, List.set_cons_succ]
     obtain ⟨z0, z1, z2, y0, y1, y2⟩ := blk3 hQf
     have hlq := hQf.lt
     refine wpAnyH_one (i := 8) (by kernel_rfl) rfl (by rfl) (fun Ka hKa => ?_)
     go_simp
     refine hKa.out _ _ (Blk.far (Blk.far (Blk.far hS2 (by show w.heap.size ≠ Q; omega) _) (by show w.heap.size ≠ Q; omega) _) (by show w.heap.size ≠ Q; omega) _) ?_
     clear hKa Ka
     refine wpAnyH_done (by kernel_rfl) ?_ _
     have hsf : w.heap.size + 1 <= wf.heap.size := hS2.lt
     go_wp2_with fail
     go_ret
     refine ⟨_, rfl, ?_, ?_⟩
     ·have h := own_litK layP (((wf.setCell ⟨Q, 0, none⟩ (.int .i64 2)).setCell ⟨Q, 1, none⟩ (.int .i64 (0))).setCell ⟨Q, 2, none⟩ (.string ⟨#[]⟩)) w.heap.size (by simp; omega) ⟨n, 6, 2, 0, []⟩ rfl
      rw [show (((wf.setCell ⟨Q, 0, none⟩ (.int .i64 2)).setCell ⟨Q, 1, none⟩ (.int .i64 (0))).setCell ⟨Q, 2, none⟩ (.string ⟨#[]⟩)).heap.size = wf.heap.size by simp] at h
      rw [HEQ.out]
      exact h
     ·exact Below.alloc (below_set (below_set (below_set hBf (by omega)) (by omega)) (by omega)) (by simp; omega) _
   ·have HEQ : Hid (orP (l ++ es.map fun v => (⟨n, 2, v.k, v.i, v.t⟩ : Pr)) ⟨n, 6, 2, 0, []⟩ = l ++ es.map fun v => (⟨n, 2, v.k, v.i, v.t⟩ : Pr)) := by
     show _ = _
     unfold orP
     rw [if_neg (fun h => ht0 (by rw [<- HTOT.out, h]; rfl))]
    have vt : ((tot : Int) == 0) = false := beq_eq_false_iff_ne.2 (by omega)
    have vt2 : ¬ tot = 0 := ht0
    go_wp2_with fail
    go_ret
    exact ⟨_, rfl, by rw [HEQ.out]; exact HO5.out.less (by omega), HB.out⟩
end Go.Proofs.Ytoffnfooeojhnaa
namespace Spans
open Go.Op (bytesLess)
def aI : List Pr := [⟨[97], 6, 1, 3, []⟩, ⟨[97], 3, 1, 6, []⟩, ⟨[97], 2, 1, 3, []⟩]
def aT : List Pr := [⟨[97], 7, 2, 0, [97, 255]⟩, ⟨[97], 2, 2, 0, [97, 255]⟩]
def spI : Sp := ⟨1, 4, 5, [], [], false, []⟩
def spT : Sp := ⟨2, 0, 0, [97, 255, 0], [98], false, []⟩
theorem canI : CanonN spI := ⟨.inl rfl, rfl, rfl, rfl, by decide, by decide, by decide, by intro v hv; simp [spI] at hv, List.Pairwise.nil⟩
theorem canT : CanonT spT := by
 refine ⟨rfl, rfl, rfl, .inl (by decide), by intro v hv; simp [spT] at hv, List.Pairwise.nil, by decide, fun _ => ⟨.inl (by decide), by decide, fun u hu hv => by simp [spT] at hv⟩⟩
theorem r1 : rightP ⟨[97], 6, 1, 3, []⟩ = true := by decide
theorem r2 : rightP ⟨[97], 3, 1, 6, []⟩ = true := by decide
theorem r3 : rightP ⟨[97], 2, 1, 3, []⟩ = true := by decide
theorem r4 : rightP ⟨[97], 7, 2, 0, [97, 255]⟩ = true := by decide
theorem r5 : rightP ⟨[97], 2, 2, 0, [97, 255]⟩ = true := by decide
theorem allI : IsAll aI spI := by
 refine ⟨.inr (.inr (.inl canI)), fun v hv => ?_⟩
 rw [N_iff canI]
 simp only [aI, List.forall_mem_cons, List.not_mem_nil, false_implies, implies_true, and_true]
 rw [holds_N r1 (.inl rfl) hv, holds_N r2 (.inl rfl) hv, holds_N r3 (.inl rfl) hv]
 simp only [spI, ofLo, ofHi, ofNo, sideV, lowest, highest]
 simp only [hv, true_and]
 constructor
 ·rintro ⟨h1, _, h2, h3⟩
  refine ⟨⟨h1, by simp; omega, ?_, by simp⟩, ⟨h1, ?_, by simp; omega, by simp⟩, ⟨h1, ?_, ?_, ?_⟩⟩
  ·have := (rightV_iff v).1 hv; simp; omega
  ·have := (rightV_iff v).1 hv; simp; omega
  ·have := (rightV_iff v).1 hv; simp; omega
  ·have := (rightV_iff v).1 hv; simp; omega
  ·simp only [if_pos, List.mem_singleton]
   intro e
   rw [e] at h2
   simp at h2
 ·rintro ⟨⟨h1, h2, _⟩, ⟨_, _, h3, _⟩, ⟨_, _, _, h4⟩⟩
  have h5 : v.i ≠ 3 := by
   have := (notN (k := 1) (i := 3) hv (.inl rfl) h1).1 (by simpa using h4)
   exact this
  simp at h2 h3
  exact ⟨h1, by simp, by omega, by omega⟩
theorem allT : IsAll aT spT := by
 refine ⟨.inr (.inr (.inr canT)), fun v hv => ?_⟩
 rw [T_iff canT]
 simp only [aT, List.forall_mem_cons, List.not_mem_nil, false_implies, implies_true, and_true]
 rw [holds_T r4 rfl hv, holds_T r5 rfl hv]
 have hu : up [97, 255] = some [98] := by decide
 have e1 : ofFrm ⟨[97], 7, 2, 0, [97, 255]⟩ = [97, 255] := rfl
 have e2 : ofTo ⟨[97], 7, 2, 0, [97, 255]⟩ = [98] := by decide
 have e3 : ofOpn ⟨[97], 7, 2, 0, [97, 255]⟩ = false := by decide
 have e4 : ofNo ⟨[97], 7, 2, 0, [97, 255]⟩ = [] := rfl
 have e5 : ofFrm ⟨[97], 2, 2, 0, [97, 255]⟩ = [] := rfl
 have e6 : ofOpn ⟨[97], 2, 2, 0, [97, 255]⟩ = true := rfl
 have e7 : ofNo ⟨[97], 2, 2, 0, [97, 255]⟩ = [⟨2, 0, [97, 255]⟩] := rfl
 rw [e1, e2, e3, e4, e5, e6, e7]
 simp only [spT, hv, true_and, Bool.false_eq_true, false_or]
 have hn : ([97, 255, 0] : List UInt8) = [97, 255] ++ [0] := rfl
 rw [hn]
 constructor
 ·rintro ⟨h1, _, h2, h3⟩
  have h4 := ge_iff_next.2 h2
  exact ⟨⟨h1, h4.1, h3, by simp⟩, ⟨h1, less_nil _, .inl trivial, (notT hv h1).2 h4.2⟩⟩
 ·rintro ⟨⟨h1, h2, h3, _⟩, ⟨_, _, _, h5⟩⟩
  exact ⟨h1, by simp, ge_iff_next.1 ⟨h2, (notT hv h1).1 h5⟩, h3⟩
theorem allIT : IsAll (aI ++ aT) none_ := by
 refine ⟨.inl rfl, fun v hv => ?_⟩
 rw [has_none]
 refine ⟨fun h => by simp at h, fun h => ?_⟩
 have h1 := h ⟨[97], 6, 1, 3, []⟩ (by simp [aI])
 have h2 := h ⟨[97], 7, 2, 0, [97, 255]⟩ (by simp [aT])
 rw [holds_N r1 (.inl rfl) hv] at h1
 rw [holds_T r4 rfl hv] at h2
 have := h1.1
 simp at this
 omega
/-- What Preds tells, of whatever name. -/
def prs (n : List UInt8) (a : Sp) : List Pr := if 1 <= n.length /\ n.length <= 16 then predsOf n a else []
theorem name_right (n : List UInt8) : Preds.right n 8 0 0 [] = decide (1 <= n.length /\ n.length <= 16) := by
 unfold Preds.right Preds.asks
 simp
theorem prsI : prs [97] spI = [⟨[97], 6, 1, 4, []⟩, ⟨[97], 4, 1, 5, []⟩] := by decide
theorem prsT : prs [97] spT = [⟨[97], 5, 2, 0, [97, 255]⟩, ⟨[97], 3, 2, 0, [98]⟩] := by decide
theorem prsA : prs [97] any_ = [⟨[97], 8, 0, 0, []⟩] := by decide
theorem inI1 : inn spI any_ = true := by decide
theorem inI2 : inn any_ spI = false := by decide
end Spans
namespace Go.Proofs.Ytoffnfooeojhnaa
open Go.RowKit Go.Sort Spans Op
theorem frm_is (n f : List UInt8) (a : Sp) (h : a.frm = f) : (if f = [] then [] else [teP n f 6 5]) = frmP n a := by
 subst h
 unfold frmP teP cutZ
 cases hz : zeroEnd a.frm with
 | none => simp
 | some u =>
  have : a.frm ≠ [] := fun e => by rw [e] at hz; simp [zeroEnd] at hz
  simp [this]
theorem to_is (n t : List UInt8) (o : Bool) (a : Sp) (h : a.to_ = t) (ho : a.opn = o) : (if o then [] else [teP n t 3 4]) = toP n a := by
 subst h; subst ho
 unfold toP teP cutZ
 cases hz : zeroEnd a.to_ with
 | none => simp
 | some u => simp
theorem preds_at (n : List UInt8) (a : Sp) (ha : Canon a) (A : Option Addr) (m c : Nat) (w : World) (hm : a.no.length = m) (hmm : m <= 10000) (hr : RdW w A a.no) (hn : n.length <= 9223372036854775807) (l : List Pr) (hl : prs n a = l) :
  Calls Try.prog 16 #[.string ⟨n.toArray⟩, spF a.kind a.lo a.hi a.frm a.to_ a.opn A m c] w (GivesQ w l) := by
 subst hl
 unfold prs
 by_cases h0 : a.kind = 0
 ·have e := kind_none ha h0
  subst e
  have e2 : predsOf n none_ = [] := rfl
  rw [e2]
  simp only [ite_self]
  exact prs_none n 0 0 [] [] false A m c w
 by_cases hnm : 1 <= n.length /\ n.length <= 16
 ·rw [if_pos hnm]
  have hrn : Preds.right n 8 0 0 [] = true := by rw [name_right]; exact decide_eq_true hnm
  rcases ha with rfl | rfl | ha | ha
  ·exact absurd rfl h0
  ·exact prs_any n 0 0 [] [] false A m c w hn hrn
  ·obtain ⟨K, lo, hi, f, t, o, no⟩ := a
   have e1 : f = [] := ha.frm
   have e2 : t = [] := ha.to_
   have e3 : o = false := ha.opn
   subst e1; subst e2; subst e3
   have hk : K = 1 ∨ K = 3 := ha.kind
   have k4 : K ≠ 4 := by omega
   have k2 : K ≠ 2 := by omega
   have k0 : K ≠ 0 := by omega
   by_cases hlh : lo = hi
   ·have e : predsOf n ⟨K, lo, hi, [], [], false, no⟩ = [⟨n, 1, K, lo, []⟩] := by unfold predsOf; simp [k0, k4, k2, hlh]
    rw [e]
    exact prsN_one n K lo hi hk A m c no w _ _ rfl rfl hn hrn hm hmm hr hlh
   ·have e : predsOf n ⟨K, lo, hi, [], [], false, no⟩ = orP ((if lowest K < lo then [(⟨n, 6, K, lo, []⟩ : Pr)] else []) ++ (if hi < highest K then [(⟨n, 4, K, hi, []⟩ : Pr)] else []) ++ no.map fun v => (⟨n, 2, v.k, v.i, v.t⟩ : Pr)) ⟨n, 6, K, lowest K, []⟩ := by
     unfold predsOf
     simp only [k0, k4, k2, hlh, if_false]
     have h1 : loP n ⟨K, lo, hi, [], [], false, no⟩ = if lowest K < lo then [(⟨n, 6, K, lo, []⟩ : Pr)] else [] := by
      unfold loP lowest
      rcases hk with rfl | rfl
      ·simp
      ·have a1 : (0 : Int) <= lo := ha.low
       have a2 : hi <= 1 := ha.high
       have a3 : lo <= hi := ha.ord
       have : lo = 0 := by omega
       subst this
       simp
     have h2 : hiP n ⟨K, lo, hi, [], [], false, no⟩ = if hi < highest K then [(⟨n, 4, K, hi, []⟩ : Pr)] else [] := by
      unfold hiP highest
      rcases hk with rfl | rfl
      ·simp
      ·have a1 : (0 : Int) <= lo := ha.low
       have a2 : hi <= 1 := ha.high
       have a3 : lo <= hi := ha.ord
       have : hi = 1 := by omega
       subst this
       simp
     rw [h1, h2]
     rfl
    rw [e]
    exact prsN_more n K lo hi hk A m c no w _ _ rfl rfl hn hrn hm hmm hr hlh
  ·obtain ⟨K, lo, hi, f, t, o, no⟩ := a
   have e1 : lo = 0 := ha.lo
   have e2 : hi = 0 := ha.hi
   have e3 : K = 2 := ha.kind
   subst e1; subst e2; subst e3
   have hf : f.length <= 1000 := by have := Short.len ha.flen; dsimp only at this; omega
   have ht : t.length <= 1000 := by
    cases o with
    | true => have h : t = [] := ha.isOpn rfl; subst h; simp
    | false => have := Short.len (ha.shut rfl).1; dsimp only at this; omega
   have hfp := frm_is n f ⟨2, 0, 0, f, t, o, no⟩ rfl
   have htp := to_is n t o ⟨2, 0, 0, f, t, o, no⟩ rfl rfl
   cases o with
   | true =>
    have e : predsOf n ⟨2, 0, 0, f, t, true, no⟩ = orP (frmP n ⟨2, 0, 0, f, t, true, no⟩ ++ toP n ⟨2, 0, 0, f, t, true, no⟩ ++ noP n ⟨2, 0, 0, f, t, true, no⟩) ⟨n, 6, 2, 0, []⟩ := by unfold predsOf; simp
    rw [e]
    exact prsO_more n f t hf ht A m c no w _ _ hfp htp hn hrn hm hmm hr
   | false =>
    by_cases hone : t = f ++ [0]
    ·have e : predsOf n ⟨2, 0, 0, f, t, false, no⟩ = [⟨n, 1, 2, 0, f⟩] := by unfold predsOf; simp [hone]
     rw [e]
     exact prsT_one n f t hf ht A m c no w _ _ hfp htp hn hrn hm hmm hr hone
    ·have e : predsOf n ⟨2, 0, 0, f, t, false, no⟩ = orP (frmP n ⟨2, 0, 0, f, t, false, no⟩ ++ toP n ⟨2, 0, 0, f, t, false, no⟩ ++ noP n ⟨2, 0, 0, f, t, false, no⟩) ⟨n, 6, 2, 0, []⟩ := by unfold predsOf; simp [hone]
     rw [e]
     exact prsT_more n f t hf ht A m c no w _ _ hfp htp hn hrn hm hmm hr hone
 ·rw [if_neg hnm]
  exact prs_name n a.kind a.lo a.hi a.frm a.to_ a.opn A m c w h0 hn (by rw [name_right]; exact decide_eq_false hnm)
end Go.Proofs.Ytoffnfooeojhnaa
namespace Go.Proofs.Ytoffnfooeojhnaa
open Go.RowKit Go.Sort Spans Op
theorem refSame_is (K lo hi : Int) (f t : List UInt8) (o : Bool) (A : Option Addr) (n c : Nat) (K' lo' hi' : Int) (f' t' : List UInt8) (o' : Bool) (A' : Option Addr) (n' c' : Nat) (w : World) (es fs : List Val) (hn : es.length = n) (hm : n <= 100000) (hn' : fs.length = n') (hm' : n' <= 100000) (hr : RdW w A es) (hr' : RdW w A' fs) (b : Bool) (hb : decide ((⟨K, lo, hi, f, t, o, es⟩ : Sp) = ⟨K', lo', hi', f', t', o', fs⟩) = b) :
  Calls Try.prog 9 #[spF K lo hi f t o A n c, spF K' lo' hi' f' t' o' A' n' c'] w fun e w' => e = .returned (.bool b) /\ Grown w w' := by
 subst hb; exact refSame_at K lo hi f t o A n c K' lo' hi' f' t' o' A' n' c' w es fs hn hm hn' hm' hr hr'
theorem has_is (K lo hi : Int) (f t : List UInt8) (o : Bool) (A : Option Addr) (n c : Nat) (a : Sp) (ha : a = ⟨K, lo, hi, f, t, o, a.no⟩) (hc : Canon a) (k i : Int) (x : List UInt8) (w : World) (hn : a.no.length = n) (hm : n <= 100000) (hx : x.length <= 9223372036854775807) (h1 : -9223372036854775808 <= i) (h2 : i <= 9223372036854775807) (hr : RdW w A a.no) (b : Bool) (hb : has a ⟨k, i, x⟩ = b) :
  Calls Try.prog 13 #[spF K lo hi f t o A n c, .agg #[.int .i64 k, .int .i64 i, .string ⟨x.toArray⟩]] w fun e w' => e = .returned (.bool b) /\ Grown w w' := by
 have h := has_at a hc A n c ⟨k, i, x⟩ w hn hm hx h1 h2 hr b hb
 rw [ha] at h
 exact h
theorem in_is (K lo hi : Int) (f t : List UInt8) (o : Bool) (A : Option Addr) (n c : Nat) (a : Sp) (ha : a = ⟨K, lo, hi, f, t, o, a.no⟩) (K' lo' hi' : Int) (f' t' : List UInt8) (o' : Bool) (A' : Option Addr) (n' c' : Nat) (b : Sp) (hb : b = ⟨K', lo', hi', f', t', o', b.no⟩) (hca : Canon a) (hcb : Canon b) (w : World) (hn : a.no.length = n) (hm : n <= 1000) (hn' : b.no.length = n') (hm' : n' <= 1000) (hr : RdW w A a.no) (hr' : RdW w A' b.no) (q : Bool) (hq : inn a b = q) :
  Calls Try.prog 11 #[spF K lo hi f t o A n c, spF K' lo' hi' f' t' o' A' n' c'] w fun e w' => e = .returned (.bool q) /\ Below w.heap.size w w' := by
 have h := in_at a b hca hcb A n c A' n' c' w hn hm hn' hm' hr hr' q hq
 rw [ha, hb] at h
 exact h
theorem dI : decide ((⟨1, 4, 5, [], [], false, []⟩ : Sp) = ⟨1, 4, 5, [], [], false, []⟩) = true := by decide
theorem dT : decide ((⟨2, 0, 0, [97, 255, 0], [98], false, []⟩ : Sp) = ⟨2, 0, 0, [97, 255, 0], [98], false, []⟩) = true := by decide
theorem boundI : ∀ p ∈ aI, p.n.length <= 100 /\ p.t.length <= 100 /\ -9223372036854775808 <= p.i /\ p.i <= 9223372036854775807 := by decide
theorem boundT : ∀ p ∈ aT, p.n.length <= 100 /\ p.t.length <= 100 /\ -9223372036854775808 <= p.i /\ p.i <= 9223372036854775807 := by decide
theorem boundIT : ∀ p ∈ aI ++ aT, p.n.length <= 100 /\ p.t.length <= 100 /\ -9223372036854775808 <= p.i /\ p.i <= 9223372036854775807 := by decide
set_option maxRecDepth 100000 in
set_option maxHeartbeats 8000000 in
theorem small_at (w : World) : Calls Try.prog 4 #[] w fun e w' => e = .returned (.bool true) /\ Below w.heap.size w w' := by
 have hb0 : Below w.heap.size w ((w.alloc (.cells #[.string ⟨#[97]⟩, .int .i64 6, .int .i64 1, .int .i64 3, .string ⟨#[]⟩, .string ⟨#[97]⟩, .int .i64 3, .int .i64 1, .int .i64 6, .string ⟨#[]⟩, .string ⟨#[97]⟩, .int .i64 2, .int .i64 1, .int .i64 3, .string ⟨#[]⟩] 38)).alloc (.cells #[.string ⟨#[97]⟩, .int .i64 7, .int .i64 2, .int .i64 0, .string ⟨#[97, 255]⟩, .string ⟨#[97]⟩, .int .i64 2, .int .i64 2, .int .i64 0, .string ⟨#[97, 255]⟩] 38)) := (gr2 w _ _).below
 have hq1 : RdQ ((w.alloc (.cells #[.string ⟨#[97]⟩, .int .i64 6, .int .i64 1, .int .i64 3, .string ⟨#[]⟩, .string ⟨#[97]⟩, .int .i64 3, .int .i64 1, .int .i64 6, .string ⟨#[]⟩, .string ⟨#[97]⟩, .int .i64 2, .int .i64 1, .int .i64 3, .string ⟨#[]⟩] 38)).alloc (.cells #[.string ⟨#[97]⟩, .int .i64 7, .int .i64 2, .int .i64 0, .string ⟨#[97, 255]⟩, .string ⟨#[97]⟩, .int .i64 2, .int .i64 2, .int .i64 0, .string ⟨#[97, 255]⟩] 38)) (some ⟨w.heap.size, 0, none⟩) aI := RdK.below (rdk_lit layP w aI 38 #[.string ⟨#[97]⟩, .int .i64 6, .int .i64 1, .int .i64 3, .string ⟨#[]⟩, .string ⟨#[97]⟩, .int .i64 3, .int .i64 1, .int .i64 6, .string ⟨#[]⟩, .string ⟨#[97]⟩, .int .i64 2, .int .i64 1, .int .i64 3, .string ⟨#[]⟩] rfl) ((Below.refl _ _).alloc (Nat.le_refl _) _)
 have hq2 : RdQ ((w.alloc (.cells #[.string ⟨#[97]⟩, .int .i64 6, .int .i64 1, .int .i64 3, .string ⟨#[]⟩, .string ⟨#[97]⟩, .int .i64 3, .int .i64 1, .int .i64 6, .string ⟨#[]⟩, .string ⟨#[97]⟩, .int .i64 2, .int .i64 1, .int .i64 3, .string ⟨#[]⟩] 38)).alloc (.cells #[.string ⟨#[97]⟩, .int .i64 7, .int .i64 2, .int .i64 0, .string ⟨#[97, 255]⟩, .string ⟨#[97]⟩, .int .i64 2, .int .i64 2, .int .i64 0, .string ⟨#[97, 255]⟩] 38)) (some ⟨w.heap.size + 1, 0, none⟩) aT := by
  have h := rdk_lit layP (w.alloc (.cells #[.string ⟨#[97]⟩, .int .i64 6, .int .i64 1, .int .i64 3, .string ⟨#[]⟩, .string ⟨#[97]⟩, .int .i64 3, .int .i64 1, .int .i64 6, .string ⟨#[]⟩, .string ⟨#[97]⟩, .int .i64 2, .int .i64 1, .int .i64 3, .string ⟨#[]⟩] 38)) aT 38 #[.string ⟨#[97]⟩, .int .i64 7, .int .i64 2, .int .i64 0, .string ⟨#[97, 255]⟩, .string ⟨#[97]⟩, .int .i64 2, .int .i64 2, .int .i64 0, .string ⟨#[97, 255]⟩] rfl
  rw [show (w.alloc (.cells #[.string ⟨#[97]⟩, .int .i64 6, .int .i64 1, .int .i64 3, .string ⟨#[]⟩, .string ⟨#[97]⟩, .int .i64 3, .int .i64 1, .int .i64 6, .string ⟨#[]⟩, .string ⟨#[97]⟩, .int .i64 2, .int .i64 1, .int .i64 3, .string ⟨#[]⟩] 38)).heap.size = w.heap.size + 1 by simp] at h
  exact h
 go_enter Try.func4, Try.ntmps4
 go_wp2_with fail
 generalize ((w.alloc (.cells #[.string ⟨#[97]⟩, .int .i64 6, .int .i64 1, .int .i64 3, .string ⟨#[]⟩, .string ⟨#[97]⟩, .int .i64 3, .int .i64 1, .int .i64 6, .string ⟨#[]⟩, .string ⟨#[97]⟩, .int .i64 2, .int .i64 1, .int .i64 3, .string ⟨#[]⟩] 38)).alloc (.cells #[.string ⟨#[97]⟩, .int .i64 7, .int .i64 2, .int .i64 0, .string ⟨#[97, 255]⟩, .string ⟨#[97]⟩, .int .i64 2, .int .i64 2, .int .i64 0, .string ⟨#[97, 255]⟩] 38)) = w0 at *
 refine (fold_at (some ⟨w.heap.size, 0, none⟩) aI 3 3 rfl (by omega) boundI w0 hq1).mono ?_
 rintro e w1 ⟨⟨rK, rlo, rhi, rf, rt, ro, rno⟩, hall, _, X1, n1, d1, rfl, hl1, _, _, hb1⟩
 have er := hall.one allI
 unfold spI at er
 injection er with q1 q2 q3 q4 q5 q6 q7
 subst q1; subst q2; subst q3; subst q4; subst q5; subst q6; subst q7
 have en : n1 = 0 := hl1.symm
 subst en
 clear hall hl1
 have hV3 : Blk (w1.alloc (.cells #[.int .i64 1, .int .i64 4, .int .i64 5, .string ⟨#[]⟩, .string ⟨#[]⟩, .bool false, .slice X1 0 d1] 29)) w1.heap.size 29 #[.int .i64 1, .int .i64 4, .int .i64 5, .string ⟨#[]⟩, .string ⟨#[]⟩, .bool false, .slice X1 0 d1] := Blk.new _ _ _
 have hb2 : Below w1.heap.size w1 (w1.alloc (.cells #[.int .i64 1, .int .i64 4, .int .i64 5, .string ⟨#[]⟩, .string ⟨#[]⟩, .bool false, .slice X1 0 d1] 29)) := (Below.refl _ _).alloc (Nat.le_refl _) _
 have hB2 := below_next (below_next hb0 (Nat.le_refl _) hb1) (Nat.le_refl _) hb2
 have hq1b := (hq1.below hb1).below hb2
 have hq2b := (hq2.below hb1).below hb2
 clear hb0 hb1 hb2 hq1 hq2
 go_wp2_with fail
 generalize w1.alloc (.cells #[.int .i64 1, .int .i64 4, .int .i64 5, .string ⟨#[]⟩, .string ⟨#[]⟩, .bool false, .slice X1 0 d1] 29) = w2 at *
 generalize w1.heap.size = V3 at *
 refine (fold_at (some ⟨w.heap.size + 1, 0, none⟩) aT 2 2 rfl (by omega) boundT w2 hq2b).mono ?_
 rintro e w3 ⟨⟨rK, rlo, rhi, rf, rt, ro, rno⟩, hall, _, X2, n2, d2, rfl, hl2, _, _, hb3⟩
 have er := hall.one allT
 unfold spT at er
 injection er with q1 q2 q3 q4 q5 q6 q7
 subst q1; subst q2; subst q3; subst q4; subst q5; subst q6; subst q7
 have en : n2 = 0 := hl2.symm
 subst en
 clear hall hl2
 have hV4 : Blk (w3.alloc (.cells #[.int .i64 2, .int .i64 0, .int .i64 0, .string ⟨#[97, 255, 0]⟩, .string ⟨#[98]⟩, .bool false, .slice X2 0 d2] 29)) w3.heap.size 29 #[.int .i64 2, .int .i64 0, .int .i64 0, .string ⟨#[97, 255, 0]⟩, .string ⟨#[98]⟩, .bool false, .slice X2 0 d2] := Blk.new _ _ _
 have hb4 : Below w3.heap.size w3 (w3.alloc (.cells #[.int .i64 2, .int .i64 0, .int .i64 0, .string ⟨#[97, 255, 0]⟩, .string ⟨#[98]⟩, .bool false, .slice X2 0 d2] 29)) := (Below.refl _ _).alloc (Nat.le_refl _) _
 have hB4 := below_next (below_next hB2 (Nat.le_refl _) hb3) (Nat.le_refl _) hb4
 have hq1c := (hq1b.below hb3).below hb4
 have hq2c := (hq2b.below hb3).below hb4
 have hV3b := Blk.below (Blk.below hV3 hb3 hV3.lt) hb4 (Nat.lt_of_lt_of_le hV3.lt hb3.size)
 have hwe : Below w3.heap.size w3 (w3.alloc (.cells #[.int .i64 2, .int .i64 0, .int .i64 0, .string ⟨#[97, 255, 0]⟩, .string ⟨#[98]⟩, .bool false, .slice X2 0 d2] 29)) := hb4
 clear hb3 hb4 hB2 hq1b hq2b hV3
 have hwz : (w3.alloc (.cells #[.int .i64 2, .int .i64 0, .int .i64 0, .string ⟨#[97, 255, 0]⟩, .string ⟨#[98]⟩, .bool false, .slice X2 0 d2] 29)).heap.size = w3.heap.size + 1 := by simp
 have ho5 : OwnQ ((w3.alloc (.cells #[.int .i64 2, .int .i64 0, .int .i64 0, .string ⟨#[97, 255, 0]⟩, .string ⟨#[98]⟩, .bool false, .slice X2 0 d2] 29)).alloc (.cells #[] 38)) (w3.heap.size + 1) (.slice (some ⟨w3.heap.size + 1, 0, none⟩) 0 0) [] := by
  have h := OwnK.empty (L := layP) (w3.alloc (.cells #[.int .i64 2, .int .i64 0, .int .i64 0, .string ⟨#[97, 255, 0]⟩, .string ⟨#[98]⟩, .bool false, .slice X2 0 d2] 29)) (w3.heap.size + 1) (by simp)
  rw [hwz] at h
  exact h
 have hb5 : Below (w3.heap.size + 1) (w3.alloc (.cells #[.int .i64 2, .int .i64 0, .int .i64 0, .string ⟨#[97, 255, 0]⟩, .string ⟨#[98]⟩, .bool false, .slice X2 0 d2] 29)) ((w3.alloc (.cells #[.int .i64 2, .int .i64 0, .int .i64 0, .string ⟨#[97, 255, 0]⟩, .string ⟨#[98]⟩, .bool false, .slice X2 0 d2] 29)).alloc (.cells #[] 38)) := (Below.refl _ _).alloc (by simp) _
 have hq1d := hq1c.below (hwz ▸ hb5)
 have hq2d := hq2c.below (hwz ▸ hb5)
 go_wp2_with (first
  | (at_builtin; refine wpList_append_k layP (by rfl) (.tmp 25) (.tmp 26) 22 underQ rfl (w3.heap.size + 1) _ [] (by rfl) ho5 (some ⟨w.heap.size, 0, none⟩) aI 3 3 (by rfl) hq1d rfl (by rw [maxLen_num]; decide) (by decide) (by simp; try omega) ?_; intro v6 w6 o6 b6 _ _; rw [List.nil_append] at o6; have hb6 := b6 _ hb5; have hq2e := hq2c.below (hwz ▸ hb6); clear b6)
  | (at_builtin; refine wpList_append_k layP (by rfl) (.tmp 27) (.tmp 28) 22 underQ rfl (w3.heap.size + 1) v6 aI (by rfl) o6 (some ⟨w.heap.size + 1, 0, none⟩) aT 2 2 (by rfl) hq2e rfl (by rw [maxLen_num]; decide) (by decide) (by have := hb6.size; rw [hwz] at this; exact this) ?_; intro v7 w7 o7 b7 _ _; have hb7 := b7 _ hb6; clear b7; obtain ⟨B7, c7, rfl, hc7, hq7⟩ := OwnK.form o7 (n := 5) rfl))
 have hb7' := hwz ▸ hb7
 have hV3c := Blk.below hV3b hb7 (by have := hV3b.lt; rw [hwz] at this; exact this)
 have hV4c := Blk.below hV4 hb7 (by omega)
 have hB7 := below_next hB4 (Nat.le_refl _) (hwz.symm ▸ hb7)
 clear hq1c hq2c hq1d hq2d hV3b hV4 hB4 hb5 hb6 hb7 hb7' hq2e o6 o7 ho5 hwe
 generalize w3.heap.size = V4 at *
 clear hwz
 refine (fold_at B7 (aI ++ aT) 5 c7 rfl (by omega) boundIT w7 hq7).mono ?_
 rintro e w8 ⟨⟨rK, rlo, rhi, rf, rt, ro, rno⟩, hall, _, X3, n3, d3, rfl, hl3, _, _, hb8⟩
 have er := hall.one allIT
 unfold none_ at er
 injection er with q1 q2 q3 q4 q5 q6 q7
 subst q1; subst q2; subst q3; subst q4; subst q5; subst q6; subst q7
 have en : n3 = 0 := hl3.symm
 subst en
 clear hall hl3 hq7
 have hV5 : Blk (w8.alloc (.cells #[.int .i64 0, .int .i64 0, .int .i64 0, .string ⟨#[]⟩, .string ⟨#[]⟩, .bool false, .slice X3 0 d3] 29)) w8.heap.size 29 #[.int .i64 0, .int .i64 0, .int .i64 0, .string ⟨#[]⟩, .string ⟨#[]⟩, .bool false, .slice X3 0 d3] := Blk.new _ _ _
 have hb9 : Below w8.heap.size w8 (w8.alloc (.cells #[.int .i64 0, .int .i64 0, .int .i64 0, .string ⟨#[]⟩, .string ⟨#[]⟩, .bool false, .slice X3 0 d3] 29)) := (Below.refl _ _).alloc (Nat.le_refl _) _
 have hB9 := below_next (below_next hB7 (Nat.le_refl _) hb8) (Nat.le_refl _) hb9
 have hV3d := Blk.below (Blk.below hV3c hb8 hV3c.lt) hb9 (Nat.lt_of_lt_of_le hV3c.lt hb8.size)
 have hV4d := Blk.below (Blk.below hV4c hb8 hV4c.lt) hb9 (Nat.lt_of_lt_of_le hV4c.lt hb8.size)
 clear hB7 hb8 hb9 hV3c hV4c
 obtain ⟨a0, a1, a2, a3, a4, a5, a6, _⟩ := blk7 hV3d
 have hla := hV3d.lt
 go_wp2_with fail
 clear a0 a1 a2 a3 a4 a5 a6 hla
 generalize w8.alloc (.cells #[.int .i64 0, .int .i64 0, .int .i64 0, .string ⟨#[]⟩, .string ⟨#[]⟩, .bool false, .slice X3 0 d3] 29) = w9 at *
 generalize w8.heap.size = V5 at *
 refine (preds_at [97] spI (.inr (.inr (.inl canI))) X1 0 d1 w9 rfl (by omega) (.inl rfl) (by decide) _ prsI).mono ?_
 rintro e wa ⟨va, rfl, hoa, hba⟩
 obtain ⟨Ba, ca, rfl, hca, hra⟩ := OwnK.form hoa (n := 2) rfl
 have hV3e := Blk.below hV3d hba hV3d.lt
 have hV4e := Blk.below hV4d hba hV4d.lt
 have hV5e := Blk.below hV5 hba hV5.lt
 have hBa := below_next hB9 (Nat.le_refl _) hba
 clear hV3d hV4d hV5 hB9 hba hoa
 obtain ⟨a0, a1, a2, a3, a4, a5, a6, _⟩ := blk7 hV4e
 have hla := hV4e.lt
 go_wp2_with fail
 clear a0 a1 a2 a3 a4 a5 a6 hla
 refine (preds_at [97] spT (.inr (.inr (.inr canT))) X2 0 d2 wa rfl (by omega) (.inl rfl) (by decide) _ prsT).mono ?_
 rintro e wb ⟨vb, rfl, hob, hbb⟩
 obtain ⟨Bb, cb, rfl, hcb, hrb⟩ := OwnK.form hob (n := 2) rfl
 have hra2 := hra.below hbb
 have hV3f := Blk.below hV3e hbb hV3e.lt
 have hV4f := Blk.below hV4e hbb hV4e.lt
 have hV5f := Blk.below hV5e hbb hV5e.lt
 have hBb := below_next hBa (Nat.le_refl _) hbb
 clear hV3e hV4e hV5e hBa hbb hob hra
 go_wp2_with fail
 refine (all_at wb).mono ?_
 rintro e wc ⟨rfl, hgc⟩
 go_wp2_with fail
 refine (preds_at [97] any_ (.inr (.inl rfl)) none 0 0 wc rfl (by omega) (.inl rfl) (by decide) _ prsA).mono ?_
 rintro e wd ⟨vd, rfl, hod, hbd⟩
 obtain ⟨Bd, cd, rfl, hcd, hrd⟩ := OwnK.form hod (n := 1) rfl
 have hbcd := below_next hgc.below (Nat.le_refl _) hbd
 have hra3 := hra2.below hbcd
 have hrb3 := hrb.below hbcd
 have hV3g := Blk.below hV3f hbcd hV3f.lt
 have hV4g := Blk.below hV4f hbcd hV4f.lt
 have hV5g := Blk.below hV5f hbcd hV5f.lt
 have hBd := below_next hBb (Nat.le_refl _) hbcd
 clear hV3f hV4f hV5f hBb hbcd hgc hbd hra2 hrb hod
 go_wp2_with fail
 have hnI : ∀ W, RdW W X1 spI.no := fun W => .inl rfl
 have hnA : ∀ W, RdW W none any_.no := fun W => .inl rfl
 have cI : Canon spI := .inr (.inr (.inl canI))
 have cA : Canon any_ := .inr (.inl rfl)
 have haI : spI = ⟨1, 4, 5, [], [], false, spI.no⟩ := rfl
 have haA : any_ = ⟨4, 0, 0, [], [], false, any_.no⟩ := rfl
 have hlI : spI.no.length = 0 := rfl
 have hlA : any_.no.length = 0 := rfl
 have b1 : ([] : List UInt8).length <= 9223372036854775807 := by decide
 have b2 : (-9223372036854775808 : Int) <= 5 := by decide
 have b3 : (5 : Int) <= 9223372036854775807 := by decide
 have b4 : (-9223372036854775808 : Int) <= 6 := by decide
 have b5 : (6 : Int) <= 9223372036854775807 := by decide
 have h5 : has spI ⟨1, 5, []⟩ = true := by decide
 have h6 : has spI ⟨1, 6, []⟩ = false := by decide
 have z1 : ([] : List Val).length = 0 := rfl
 have hS0 : Below wd.heap.size wd wd.drew := (Below.refl _ _).drew
 refine wp_region_held_drew (S := fun w' => Below wd.heap.size wd w') (by kernel_rfl) hS0 (fun _ => ?_)
 generalize wd.drew = x0 at *
 refine wpAnyH_yes (i := 0) (d := 37) (v := ?_) rfl rfl (by kernel_rfl) (by kernel_rfl) (by kernel_rfl) (fun _ _ _ h => h) (by rfl) ?_ hS0 ?_
 rotate_left
 ·intro w' hSw; obtain ⟨s0, s1, s2, s3, s4, s5, s6, _⟩ := blk7 (Blk.below hV3g hSw hV3g.lt); obtain ⟨t0, t1, t2, t3, t4, t5, t6, _⟩ := blk7 (Blk.below hV4g hSw hV4g.lt); obtain ⟨u0, u1, u2, u3, u4, u5, u6, _⟩ := blk7 (Blk.below hV5g hSw hV5g.lt); go_simp <;> with_reducible rfl
 simp only [Act.put, List.setIfInBounds_toArray, List.set_cons_zero, List.set_cons_succ]
 refine wpAnyH_yes (i := 1) (d := 38) (v := ?_) rfl rfl (by kernel_rfl) (by kernel_rfl) (by kernel_rfl) (fun _ _ _ h => h) (by rfl) ?_ hS0 ?_
 rotate_left
 ·intro w' hSw; go_simp <;> with_reducible rfl
 simp only [Act.put, List.setIfInBounds_toArray, List.set_cons_zero, List.set_cons_succ]
 refine wpAnyH_one (i := 2) (by kernel_rfl) rfl (by rfl) (fun Ka hKa => ?_)
 go_simp
 with_reducible refine (refSame_is 1 4 5 [] [] false X1 0 d1 1 4 5 [] [] false none 0 0 x0 [] [] z1 (by omega) z1 (by omega) (RdK.nil _ _) (RdK.nil _ _) true dI).mono ?_
 rintro e x1 ⟨rfl, hg1⟩
 have hS1 := below_next hS0 (Nat.le_refl _) hg1.below
 go_wp2_with fail
 refine hKa.out _ _ hS1 ?_
 clear hKa Ka
 refine wpAnyH_yes (i := 3) (d := 40) (v := ?_) rfl rfl (by kernel_rfl) (by kernel_rfl) (by kernel_rfl) (fun _ _ _ h => h) (by rfl) ?_ hS1 ?_
 rotate_left
 ·intro w' hSw; go_simp <;> with_reducible rfl
 simp only [Act.put, List.setIfInBounds_toArray, List.set_cons_zero, List.set_cons_succ]
 refine wpAnyH_yes (i := 4) (d := 41) (v := ?_) rfl rfl (by kernel_rfl) (by kernel_rfl) (by kernel_rfl) (fun _ _ _ h => h) (by rfl) ?_ hS1 ?_
 rotate_left
 ·intro w' hSw; obtain ⟨s0, s1, s2, s3, s4, s5, s6, _⟩ := blk7 (Blk.below hV3g hSw hV3g.lt); obtain ⟨t0, t1, t2, t3, t4, t5, t6, _⟩ := blk7 (Blk.below hV4g hSw hV4g.lt); obtain ⟨u0, u1, u2, u3, u4, u5, u6, _⟩ := blk7 (Blk.below hV5g hSw hV5g.lt); go_simp <;> with_reducible rfl
 simp only [Act.put, List.setIfInBounds_toArray, List.set_cons_zero, List.set_cons_succ]
 refine wpAnyH_yes (i := 5) (d := 42) (v := ?_) rfl rfl (by kernel_rfl) (by kernel_rfl) (by kernel_rfl) (fun _ _ _ h => h) (by rfl) ?_ hS1 ?_
 rotate_left
 ·intro w' hSw; go_simp <;> with_reducible rfl
 simp only [Act.put, List.setIfInBounds_toArray, List.set_cons_zero, List.set_cons_succ]
 refine wpAnyH_one (i := 6) (by kernel_rfl) rfl (by rfl) (fun Ka hKa => ?_)
 go_simp
 with_reducible refine (refSame_is 2 0 0 [97, 255, 0] [98] false X2 0 d2 2 0 0 [97, 255, 0] [98] false none 0 0 x1 [] [] z1 (by omega) z1 (by omega) (RdK.nil _ _) (RdK.nil _ _) true dT).mono ?_
 rintro e x2 ⟨rfl, hg2⟩
 have hS2 := below_next hS1 (Nat.le_refl _) hg2.below
 go_wp2_with fail
 refine hKa.out _ _ hS2 ?_
 clear hKa Ka
 refine wpAnyH_yes (i := 7) (d := 44) (v := ?_) rfl rfl (by kernel_rfl) (by kernel_rfl) (by kernel_rfl) (fun _ _ _ h => h) (by rfl) ?_ hS2 ?_
 rotate_left
 ·intro w' hSw; go_simp <;> with_reducible rfl
 simp only [Act.put, List.setIfInBounds_toArray, List.set_cons_zero, List.set_cons_succ]
 refine wpAnyH_yes (i := 8) (d := 45) (v := ?_) rfl rfl (by kernel_rfl) (by kernel_rfl) (by kernel_rfl) (fun _ _ _ h => h) (by rfl) ?_ hS2 ?_
 rotate_left
 ·intro w' hSw; go_simp <;> with_reducible rfl
 simp only [Act.put, List.setIfInBounds_toArray, List.set_cons_zero, List.set_cons_succ]
 refine wpAnyH_yes (i := 9) (d := 46) (v := ?_) rfl rfl (by kernel_rfl) (by kernel_rfl) (by kernel_rfl) (fun _ _ _ h => h) (by rfl) ?_ hS2 ?_
 rotate_left
 ·intro w' hSw; obtain ⟨s0, s1, s2, s3, s4, s5, s6, _⟩ := blk7 (Blk.below hV3g hSw hV3g.lt); obtain ⟨t0, t1, t2, t3, t4, t5, t6, _⟩ := blk7 (Blk.below hV4g hSw hV4g.lt); obtain ⟨u0, u1, u2, u3, u4, u5, u6, _⟩ := blk7 (Blk.below hV5g hSw hV5g.lt); go_simp <;> with_reducible rfl
 simp only [Act.put, List.setIfInBounds_toArray, List.set_cons_zero, List.set_cons_succ]
 refine wpAnyH_yes (i := 10) (d := 47) (v := ?_) rfl rfl (by kernel_rfl) (by kernel_rfl) (by kernel_rfl) (fun _ _ _ h => h) (by rfl) ?_ hS2 ?_
 rotate_left
 ·intro w' hSw; obtain ⟨s0, s1, s2, s3, s4, s5, s6, _⟩ := blk7 (Blk.below hV3g hSw hV3g.lt); obtain ⟨t0, t1, t2, t3, t4, t5, t6, _⟩ := blk7 (Blk.below hV4g hSw hV4g.lt); obtain ⟨u0, u1, u2, u3, u4, u5, u6, _⟩ := blk7 (Blk.below hV5g hSw hV5g.lt); go_simp <;> with_reducible rfl
 simp only [Act.put, List.setIfInBounds_toArray, List.set_cons_zero, List.set_cons_succ]
 refine wpAnyH_yes (i := 11) (d := 48) (v := ?_) rfl rfl (by kernel_rfl) (by kernel_rfl) (by kernel_rfl) (fun _ _ _ h => h) (by rfl) ?_ hS2 ?_
 rotate_left
 ·intro w' hSw; obtain ⟨s0, s1, s2, s3, s4, s5, s6, _⟩ := blk7 (Blk.below hV3g hSw hV3g.lt); obtain ⟨t0, t1, t2, t3, t4, t5, t6, _⟩ := blk7 (Blk.below hV4g hSw hV4g.lt); obtain ⟨u0, u1, u2, u3, u4, u5, u6, _⟩ := blk7 (Blk.below hV5g hSw hV5g.lt); go_simp <;> with_reducible rfl
 simp only [Act.put, List.setIfInBounds_toArray, List.set_cons_zero, List.set_cons_succ]
 refine wpAnyH_yes (i := 12) (d := 49) (v := ?_) rfl rfl (by kernel_rfl) (by kernel_rfl) (by kernel_rfl) (fun _ _ _ h => h) (by rfl) ?_ hS2 ?_
 rotate_left
 ·intro w' hSw; go_simp <;> with_reducible rfl
 simp only [Act.put, List.setIfInBounds_toArray, List.set_cons_zero, List.set_cons_succ]
 refine wpAnyH_yes (i := 13) (d := 50) (v := ?_) rfl rfl (by kernel_rfl) (by kernel_rfl) (by kernel_rfl) (fun _ _ _ h => h) (by rfl) ?_ hS2 ?_
 rotate_left
 ·intro w' hSw; go_simp <;> with_reducible rfl
 simp only [Act.put, List.setIfInBounds_toArray, List.set_cons_zero, List.set_cons_succ]
 refine wpAnyH_yes (i := 14) (d := 51) (v := ?_) rfl rfl (by kernel_rfl) (by kernel_rfl) (by kernel_rfl) (fun _ _ _ h => h) (by rfl) ?_ hS2 ?_
 rotate_left
 ·intro w' hSw; go_simp <;> with_reducible rfl
 simp only [Act.put, List.setIfInBounds_toArray, List.set_cons_zero, List.set_cons_succ]
 refine wpAnyH_yes (i := 15) (d := 52) (v := ?_) rfl rfl (by kernel_rfl) (by kernel_rfl) (by kernel_rfl) (fun _ _ _ h => h) (by rfl) ?_ hS2 ?_
 rotate_left
 ·intro w' hSw; go_simp <;> with_reducible rfl
 simp only [Act.put, List.setIfInBounds_toArray, List.set_cons_zero, List.set_cons_succ]
 refine wpAnyH_yes (i := 16) (d := 53) (v := ?_) rfl rfl (by kernel_rfl) (by kernel_rfl) (by kernel_rfl) (fun _ _ _ h => h) (by rfl) ?_ hS2 ?_
 rotate_left
 ·intro w' hSw; go_simp <;> with_reducible rfl
 simp only [Act.put, List.setIfInBounds_toArray, List.set_cons_zero, List.set_cons_succ]
 refine wpAnyH_yes (i := 17) (d := 54) (v := ?_) rfl rfl (by kernel_rfl) (by kernel_rfl) (by kernel_rfl) (fun _ _ _ h => h) (by rfl) ?_ hS2 ?_
 rotate_left
 ·intro w' hSw; go_simp <;> with_reducible rfl
 simp only [Act.put, List.setIfInBounds_toArray, List.set_cons_zero, List.set_cons_succ]
 refine wpAnyH_yes (i := 18) (d := 55) (v := ?_) rfl rfl (by kernel_rfl) (by kernel_rfl) (by kernel_rfl) (fun _ _ _ h => h) (by rfl) ?_ hS2 ?_
 rotate_left
 ·intro w' hSw; go_simp <;> with_reducible rfl
 simp only [Act.put, List.setIfInBounds_toArray, List.set_cons_zero, List.set_cons_succ]
 refine wpAnyH_one (i := 19) (by kernel_rfl) rfl (by rfl) (fun Ka hKa => ?_)
 go_simp
 have hS3 : Below wd.heap.size wd (x2.alloc (.cells #[.string ⟨#[97]⟩, .int .i64 6, .int .i64 1, .int .i64 4, .string ⟨#[]⟩, .string ⟨#[97]⟩, .int .i64 4, .int .i64 1, .int .i64 5, .string ⟨#[]⟩] 38)) := hS2.alloc hS2.size _
 have hlit3 : RdQ (x2.alloc (.cells #[.string ⟨#[97]⟩, .int .i64 6, .int .i64 1, .int .i64 4, .string ⟨#[]⟩, .string ⟨#[97]⟩, .int .i64 4, .int .i64 1, .int .i64 5, .string ⟨#[]⟩] 38)) (some ⟨x2.heap.size, 0, none⟩) [⟨[97], 6, 1, 4, []⟩, ⟨[97], 4, 1, 5, []⟩] := rdk_lit layP x2 [⟨[97], 6, 1, 4, []⟩, ⟨[97], 4, 1, 5, []⟩] 38 #[.string ⟨#[97]⟩, .int .i64 6, .int .i64 1, .int .i64 4, .string ⟨#[]⟩, .string ⟨#[97]⟩, .int .i64 4, .int .i64 1, .int .i64 5, .string ⟨#[]⟩] rfl
 refine hKa.out _ _ hS3 ?_
 clear hKa Ka
 generalize x2.alloc (.cells #[.string ⟨#[97]⟩, .int .i64 6, .int .i64 1, .int .i64 4, .string ⟨#[]⟩, .string ⟨#[97]⟩, .int .i64 4, .int .i64 1, .int .i64 5, .string ⟨#[]⟩] 38) = x3 at *
 generalize x2.heap.size = g3 at *
 have hrr3 := RdK.below hra3 hS3
 have hln3 : ([⟨[97], 6, 1, 4, []⟩, ⟨[97], 4, 1, 5, []⟩] : List Pr).length = 2 := rfl
 have hde3 : decide (([⟨[97], 6, 1, 4, []⟩, ⟨[97], 4, 1, 5, []⟩] : List Pr) = [⟨[97], 6, 1, 4, []⟩, ⟨[97], 4, 1, 5, []⟩]) = true := by decide
 refine wpAnyH_one (i := 20) (by kernel_rfl) rfl (by rfl) (fun Ka hKa => ?_)
 go_simp
 with_reducible refine (samePs_at Ba [⟨[97], 6, 1, 4, []⟩, ⟨[97], 4, 1, 5, []⟩] 2 ca hln3 (by omega) (some ⟨g3, 0, none⟩) [⟨[97], 6, 1, 4, []⟩, ⟨[97], 4, 1, 5, []⟩] 2 2 hln3 (by omega) x3 hrr3 hlit3 true hde3).mono ?_
 rintro e x4 ⟨rfl, hg4⟩
 have hS4 := below_next hS3 (Nat.le_refl _) hg4.below
 go_wp2_with fail
 refine hKa.out _ _ hS4 ?_
 clear hKa Ka
 refine wpAnyH_yes (i := 21) (d := 58) (v := ?_) rfl rfl (by kernel_rfl) (by kernel_rfl) (by kernel_rfl) (fun _ _ _ h => h) (by rfl) ?_ hS4 ?_
 rotate_left
 ·intro w' hSw; go_simp <;> with_reducible rfl
 simp only [Act.put, List.setIfInBounds_toArray, List.set_cons_zero, List.set_cons_succ]
 refine wpAnyH_yes (i := 22) (d := 59) (v := ?_) rfl rfl (by kernel_rfl) (by kernel_rfl) (by kernel_rfl) (fun _ _ _ h => h) (by rfl) ?_ hS4 ?_
 rotate_left
 ·intro w' hSw; go_simp <;> with_reducible rfl
 simp only [Act.put, List.setIfInBounds_toArray, List.set_cons_zero, List.set_cons_succ]
 refine wpAnyH_yes (i := 23) (d := 60) (v := ?_) rfl rfl (by kernel_rfl) (by kernel_rfl) (by kernel_rfl) (fun _ _ _ h => h) (by rfl) ?_ hS4 ?_
 rotate_left
 ·intro w' hSw; go_simp <;> with_reducible rfl
 simp only [Act.put, List.setIfInBounds_toArray, List.set_cons_zero, List.set_cons_succ]
 refine wpAnyH_yes (i := 24) (d := 61) (v := ?_) rfl rfl (by kernel_rfl) (by kernel_rfl) (by kernel_rfl) (fun _ _ _ h => h) (by rfl) ?_ hS4 ?_
 rotate_left
 ·intro w' hSw; go_simp <;> with_reducible rfl
 simp only [Act.put, List.setIfInBounds_toArray, List.set_cons_zero, List.set_cons_succ]
 refine wpAnyH_yes (i := 25) (d := 62) (v := ?_) rfl rfl (by kernel_rfl) (by kernel_rfl) (by kernel_rfl) (fun _ _ _ h => h) (by rfl) ?_ hS4 ?_
 rotate_left
 ·intro w' hSw; go_simp <;> with_reducible rfl
 simp only [Act.put, List.setIfInBounds_toArray, List.set_cons_zero, List.set_cons_succ]
 refine wpAnyH_yes (i := 26) (d := 63) (v := ?_) rfl rfl (by kernel_rfl) (by kernel_rfl) (by kernel_rfl) (fun _ _ _ h => h) (by rfl) ?_ hS4 ?_
 rotate_left
 ·intro w' hSw; go_simp <;> with_reducible rfl
 simp only [Act.put, List.setIfInBounds_toArray, List.set_cons_zero, List.set_cons_succ]
 refine wpAnyH_yes (i := 27) (d := 64) (v := ?_) rfl rfl (by kernel_rfl) (by kernel_rfl) (by kernel_rfl) (fun _ _ _ h => h) (by rfl) ?_ hS4 ?_
 rotate_left
 ·intro w' hSw; go_simp <;> with_reducible rfl
 simp only [Act.put, List.setIfInBounds_toArray, List.set_cons_zero, List.set_cons_succ]
 refine wpAnyH_one (i := 28) (by kernel_rfl) rfl (by rfl) (fun Ka hKa => ?_)
 go_simp
 have hS5 : Below wd.heap.size wd (x4.alloc (.cells #[.string ⟨#[97]⟩, .int .i64 5, .int .i64 2, .int .i64 0, .string ⟨#[97, 255]⟩, .string ⟨#[97]⟩, .int .i64 3, .int .i64 2, .int .i64 0, .string ⟨#[98]⟩] 38)) := hS4.alloc hS4.size _
 have hlit5 : RdQ (x4.alloc (.cells #[.string ⟨#[97]⟩, .int .i64 5, .int .i64 2, .int .i64 0, .string ⟨#[97, 255]⟩, .string ⟨#[97]⟩, .int .i64 3, .int .i64 2, .int .i64 0, .string ⟨#[98]⟩] 38)) (some ⟨x4.heap.size, 0, none⟩) [⟨[97], 5, 2, 0, [97, 255]⟩, ⟨[97], 3, 2, 0, [98]⟩] := rdk_lit layP x4 [⟨[97], 5, 2, 0, [97, 255]⟩, ⟨[97], 3, 2, 0, [98]⟩] 38 #[.string ⟨#[97]⟩, .int .i64 5, .int .i64 2, .int .i64 0, .string ⟨#[97, 255]⟩, .string ⟨#[97]⟩, .int .i64 3, .int .i64 2, .int .i64 0, .string ⟨#[98]⟩] rfl
 refine hKa.out _ _ hS5 ?_
 clear hKa Ka
 generalize x4.alloc (.cells #[.string ⟨#[97]⟩, .int .i64 5, .int .i64 2, .int .i64 0, .string ⟨#[97, 255]⟩, .string ⟨#[97]⟩, .int .i64 3, .int .i64 2, .int .i64 0, .string ⟨#[98]⟩] 38) = x5 at *
 generalize x4.heap.size = g5 at *
 have hrr5 := RdK.below hrb3 hS5
 have hln5 : ([⟨[97], 5, 2, 0, [97, 255]⟩, ⟨[97], 3, 2, 0, [98]⟩] : List Pr).length = 2 := rfl
 have hde5 : decide (([⟨[97], 5, 2, 0, [97, 255]⟩, ⟨[97], 3, 2, 0, [98]⟩] : List Pr) = [⟨[97], 5, 2, 0, [97, 255]⟩, ⟨[97], 3, 2, 0, [98]⟩]) = true := by decide
 refine wpAnyH_one (i := 29) (by kernel_rfl) rfl (by rfl) (fun Ka hKa => ?_)
 go_simp
 with_reducible refine (samePs_at Bb [⟨[97], 5, 2, 0, [97, 255]⟩, ⟨[97], 3, 2, 0, [98]⟩] 2 cb hln5 (by omega) (some ⟨g5, 0, none⟩) [⟨[97], 5, 2, 0, [97, 255]⟩, ⟨[97], 3, 2, 0, [98]⟩] 2 2 hln5 (by omega) x5 hrr5 hlit5 true hde5).mono ?_
 rintro e x6 ⟨rfl, hg6⟩
 have hS6 := below_next hS5 (Nat.le_refl _) hg6.below
 go_wp2_with fail
 refine hKa.out _ _ hS6 ?_
 clear hKa Ka
 refine wpAnyH_yes (i := 30) (d := 67) (v := ?_) rfl rfl (by kernel_rfl) (by kernel_rfl) (by kernel_rfl) (fun _ _ _ h => h) (by rfl) ?_ hS6 ?_
 rotate_left
 ·intro w' hSw; go_simp <;> with_reducible rfl
 simp only [Act.put, List.setIfInBounds_toArray, List.set_cons_zero, List.set_cons_succ]
 refine wpAnyH_yes (i := 31) (d := 68) (v := ?_) rfl rfl (by kernel_rfl) (by kernel_rfl) (by kernel_rfl) (fun _ _ _ h => h) (by rfl) ?_ hS6 ?_
 rotate_left
 ·intro w' hSw; go_simp <;> with_reducible rfl
 simp only [Act.put, List.setIfInBounds_toArray, List.set_cons_zero, List.set_cons_succ]
 refine wpAnyH_yes (i := 32) (d := 69) (v := ?_) rfl rfl (by kernel_rfl) (by kernel_rfl) (by kernel_rfl) (fun _ _ _ h => h) (by rfl) ?_ hS6 ?_
 rotate_left
 ·intro w' hSw; go_simp <;> with_reducible rfl
 simp only [Act.put, List.setIfInBounds_toArray, List.set_cons_zero, List.set_cons_succ]
 refine wpAnyH_yes (i := 33) (d := 70) (v := ?_) rfl rfl (by kernel_rfl) (by kernel_rfl) (by kernel_rfl) (fun _ _ _ h => h) (by rfl) ?_ hS6 ?_
 rotate_left
 ·intro w' hSw; go_simp <;> with_reducible rfl
 simp only [Act.put, List.setIfInBounds_toArray, List.set_cons_zero, List.set_cons_succ]
 refine wpAnyH_one (i := 34) (by kernel_rfl) rfl (by rfl) (fun Ka hKa => ?_)
 go_simp
 have hS7 : Below wd.heap.size wd (x6.alloc (.cells #[.string ⟨#[97]⟩, .int .i64 8, .int .i64 0, .int .i64 0, .string ⟨#[]⟩] 38)) := hS6.alloc hS6.size _
 have hlit7 : RdQ (x6.alloc (.cells #[.string ⟨#[97]⟩, .int .i64 8, .int .i64 0, .int .i64 0, .string ⟨#[]⟩] 38)) (some ⟨x6.heap.size, 0, none⟩) [⟨[97], 8, 0, 0, []⟩] := rdk_lit layP x6 [⟨[97], 8, 0, 0, []⟩] 38 #[.string ⟨#[97]⟩, .int .i64 8, .int .i64 0, .int .i64 0, .string ⟨#[]⟩] rfl
 refine hKa.out _ _ hS7 ?_
 clear hKa Ka
 generalize x6.alloc (.cells #[.string ⟨#[97]⟩, .int .i64 8, .int .i64 0, .int .i64 0, .string ⟨#[]⟩] 38) = x7 at *
 generalize x6.heap.size = g7 at *
 have hrr7 := RdK.below hrd hS7
 have hln7 : ([⟨[97], 8, 0, 0, []⟩] : List Pr).length = 1 := rfl
 have hde7 : decide (([⟨[97], 8, 0, 0, []⟩] : List Pr) = [⟨[97], 8, 0, 0, []⟩]) = true := by decide
 refine wpAnyH_one (i := 35) (by kernel_rfl) rfl (by rfl) (fun Ka hKa => ?_)
 go_simp
 with_reducible refine (samePs_at Bd [⟨[97], 8, 0, 0, []⟩] 1 cd hln7 (by omega) (some ⟨g7, 0, none⟩) [⟨[97], 8, 0, 0, []⟩] 1 1 hln7 (by omega) x7 hrr7 hlit7 true hde7).mono ?_
 rintro e x8 ⟨rfl, hg8⟩
 have hS8 := below_next hS7 (Nat.le_refl _) hg8.below
 go_wp2_with fail
 refine hKa.out _ _ hS8 ?_
 clear hKa Ka
 refine wpAnyH_yes (i := 36) (d := 73) (v := ?_) rfl rfl (by kernel_rfl) (by kernel_rfl) (by kernel_rfl) (fun _ _ _ h => h) (by rfl) ?_ hS8 ?_
 rotate_left
 ·intro w' hSw; go_simp <;> with_reducible rfl
 simp only [Act.put, List.setIfInBounds_toArray, List.set_cons_zero, List.set_cons_succ]
 refine wpAnyH_yes (i := 37) (d := 74) (v := ?_) rfl rfl (by kernel_rfl) (by kernel_rfl) (by kernel_rfl) (fun _ _ _ h => h) (by rfl) ?_ hS8 ?_
 rotate_left
 ·intro w' hSw; go_simp <;> with_reducible rfl
 simp only [Act.put, List.setIfInBounds_toArray, List.set_cons_zero, List.set_cons_succ]
 refine wpAnyH_yes (i := 38) (d := 75) (v := ?_) rfl rfl (by kernel_rfl) (by kernel_rfl) (by kernel_rfl) (fun _ _ _ h => h) (by rfl) ?_ hS8 ?_
 rotate_left
 ·intro w' hSw; obtain ⟨s0, s1, s2, s3, s4, s5, s6, _⟩ := blk7 (Blk.below hV3g hSw hV3g.lt); obtain ⟨t0, t1, t2, t3, t4, t5, t6, _⟩ := blk7 (Blk.below hV4g hSw hV4g.lt); obtain ⟨u0, u1, u2, u3, u4, u5, u6, _⟩ := blk7 (Blk.below hV5g hSw hV5g.lt); go_simp <;> with_reducible rfl
 simp only [Act.put, List.setIfInBounds_toArray, List.set_cons_zero, List.set_cons_succ]
 refine wpAnyH_yes (i := 39) (d := 76) (v := ?_) rfl rfl (by kernel_rfl) (by kernel_rfl) (by kernel_rfl) (fun _ _ _ h => h) (by rfl) ?_ hS8 ?_
 rotate_left
 ·intro w' hSw; go_simp <;> with_reducible rfl
 simp only [Act.put, List.setIfInBounds_toArray, List.set_cons_zero, List.set_cons_succ]
 refine wpAnyH_one (i := 40) (by kernel_rfl) rfl (by rfl) (fun Ka hKa => ?_)
 go_simp
 with_reducible refine (has_is 1 4 5 [] [] false X1 0 d1 spI haI cI 1 5 [] x8 hlI (by omega) b1 b2 b3 (hnI _) true h5).mono ?_
 rintro e x9 ⟨rfl, hg9⟩
 have hS9 := below_next hS8 (Nat.le_refl _) hg9.below
 go_wp2_with fail
 refine hKa.out _ _ hS9 ?_
 clear hKa Ka
 refine wpAnyH_yes (i := 41) (d := 78) (v := ?_) rfl rfl (by kernel_rfl) (by kernel_rfl) (by kernel_rfl) (fun _ _ _ h => h) (by rfl) ?_ hS9 ?_
 rotate_left
 ·intro w' hSw; go_simp <;> with_reducible rfl
 simp only [Act.put, List.setIfInBounds_toArray, List.set_cons_zero, List.set_cons_succ]
 refine wpAnyH_yes (i := 42) (d := 79) (v := ?_) rfl rfl (by kernel_rfl) (by kernel_rfl) (by kernel_rfl) (fun _ _ _ h => h) (by rfl) ?_ hS9 ?_
 rotate_left
 ·intro w' hSw; go_simp <;> with_reducible rfl
 simp only [Act.put, List.setIfInBounds_toArray, List.set_cons_zero, List.set_cons_succ]
 refine wpAnyH_yes (i := 43) (d := 80) (v := ?_) rfl rfl (by kernel_rfl) (by kernel_rfl) (by kernel_rfl) (fun _ _ _ h => h) (by rfl) ?_ hS9 ?_
 rotate_left
 ·intro w' hSw; obtain ⟨s0, s1, s2, s3, s4, s5, s6, _⟩ := blk7 (Blk.below hV3g hSw hV3g.lt); obtain ⟨t0, t1, t2, t3, t4, t5, t6, _⟩ := blk7 (Blk.below hV4g hSw hV4g.lt); obtain ⟨u0, u1, u2, u3, u4, u5, u6, _⟩ := blk7 (Blk.below hV5g hSw hV5g.lt); go_simp <;> with_reducible rfl
 simp only [Act.put, List.setIfInBounds_toArray, List.set_cons_zero, List.set_cons_succ]
 refine wpAnyH_yes (i := 44) (d := 81) (v := ?_) rfl rfl (by kernel_rfl) (by kernel_rfl) (by kernel_rfl) (fun _ _ _ h => h) (by rfl) ?_ hS9 ?_
 rotate_left
 ·intro w' hSw; go_simp <;> with_reducible rfl
 simp only [Act.put, List.setIfInBounds_toArray, List.set_cons_zero, List.set_cons_succ]
 refine wpAnyH_one (i := 45) (by kernel_rfl) rfl (by rfl) (fun Ka hKa => ?_)
 go_simp
 with_reducible refine (has_is 1 4 5 [] [] false X1 0 d1 spI haI cI 1 6 [] x9 hlI (by omega) b1 b4 b5 (hnI _) false h6).mono ?_
 rintro e x10 ⟨rfl, hg10⟩
 have hS10 := below_next hS9 (Nat.le_refl _) hg10.below
 go_wp2_with fail
 refine hKa.out _ _ hS10 ?_
 clear hKa Ka
 refine wpAnyH_yes (i := 46) (d := 83) (v := ?_) rfl rfl (by kernel_rfl) (by kernel_rfl) (by kernel_rfl) (fun _ _ _ h => h) (by rfl) ?_ hS10 ?_
 rotate_left
 ·intro w' hSw; go_simp <;> with_reducible rfl
 simp only [Act.put, List.setIfInBounds_toArray, List.set_cons_zero, List.set_cons_succ]
 refine wpAnyH_yes (i := 47) (d := 84) (v := ?_) rfl rfl (by kernel_rfl) (by kernel_rfl) (by kernel_rfl) (fun _ _ _ h => h) (by rfl) ?_ hS10 ?_
 rotate_left
 ·intro w' hSw; go_simp <;> with_reducible rfl
 simp only [Act.put, List.setIfInBounds_toArray, List.set_cons_zero, List.set_cons_succ]
 refine wpAnyH_yes (i := 48) (d := 85) (v := ?_) rfl rfl (by kernel_rfl) (by kernel_rfl) (by kernel_rfl) (fun _ _ _ h => h) (by rfl) ?_ hS10 ?_
 rotate_left
 ·intro w' hSw; go_simp <;> with_reducible rfl
 simp only [Act.put, List.setIfInBounds_toArray, List.set_cons_zero, List.set_cons_succ]
 refine wpAnyH_yes (i := 49) (d := 86) (v := ?_) rfl rfl (by kernel_rfl) (by kernel_rfl) (by kernel_rfl) (fun _ _ _ h => h) (by rfl) ?_ hS10 ?_
 rotate_left
 ·intro w' hSw; obtain ⟨s0, s1, s2, s3, s4, s5, s6, _⟩ := blk7 (Blk.below hV3g hSw hV3g.lt); obtain ⟨t0, t1, t2, t3, t4, t5, t6, _⟩ := blk7 (Blk.below hV4g hSw hV4g.lt); obtain ⟨u0, u1, u2, u3, u4, u5, u6, _⟩ := blk7 (Blk.below hV5g hSw hV5g.lt); go_simp <;> with_reducible rfl
 simp only [Act.put, List.setIfInBounds_toArray, List.set_cons_zero, List.set_cons_succ]
 refine wpAnyH_one (i := 50) (by kernel_rfl) rfl (by rfl) (fun Ka hKa => ?_)
 go_simp
 with_reducible refine (all_at x10).mono ?_
 rintro e x11 ⟨rfl, hg11⟩
 have hS11 := below_next hS10 (Nat.le_refl _) hg11.below
 go_wp2_with fail
 refine hKa.out _ _ hS11 ?_
 clear hKa Ka
 refine wpAnyH_one (i := 51) (by kernel_rfl) rfl (by rfl) (fun Ka hKa => ?_)
 go_simp
 with_reducible refine (in_is 1 4 5 [] [] false X1 0 d1 spI haI 4 0 0 [] [] false none 0 0 any_ haA cI cA x11 hlI (by omega) hlA (by omega) (hnI _) (hnA _) true inI1).mono ?_
 rintro e x12 ⟨rfl, hg12⟩
 have hS12 := below_next hS11 (Nat.le_refl _) hg12
 go_wp2_with fail
 refine hKa.out _ _ hS12 ?_
 clear hKa Ka
 refine wpAnyH_yes (i := 52) (d := 89) (v := ?_) rfl rfl (by kernel_rfl) (by kernel_rfl) (by kernel_rfl) (fun _ _ _ h => h) (by rfl) ?_ hS12 ?_
 rotate_left
 ·intro w' hSw; go_simp <;> with_reducible rfl
 simp only [Act.put, List.setIfInBounds_toArray, List.set_cons_zero, List.set_cons_succ]
 refine wpAnyH_yes (i := 53) (d := 90) (v := ?_) rfl rfl (by kernel_rfl) (by kernel_rfl) (by kernel_rfl) (fun _ _ _ h => h) (by rfl) ?_ hS12 ?_
 rotate_left
 ·intro w' hSw; go_simp <;> with_reducible rfl
 simp only [Act.put, List.setIfInBounds_toArray, List.set_cons_zero, List.set_cons_succ]
 refine wpAnyH_yes (i := 55) (d := 92) (v := ?_) rfl rfl (by kernel_rfl) (by kernel_rfl) (by kernel_rfl) (fun _ _ _ h => h) (by rfl) ?_ hS12 ?_
 rotate_left
 ·intro w' hSw; obtain ⟨s0, s1, s2, s3, s4, s5, s6, _⟩ := blk7 (Blk.below hV3g hSw hV3g.lt); obtain ⟨t0, t1, t2, t3, t4, t5, t6, _⟩ := blk7 (Blk.below hV4g hSw hV4g.lt); obtain ⟨u0, u1, u2, u3, u4, u5, u6, _⟩ := blk7 (Blk.below hV5g hSw hV5g.lt); go_simp <;> with_reducible rfl
 simp only [Act.put, List.setIfInBounds_toArray, List.set_cons_zero, List.set_cons_succ]
 refine wpAnyH_one (i := 54) (by kernel_rfl) rfl (by rfl) (fun Ka hKa => ?_)
 go_simp
 with_reducible refine (all_at x12).mono ?_
 rintro e x13 ⟨rfl, hg13⟩
 have hS13 := below_next hS12 (Nat.le_refl _) hg13.below
 go_wp2_with fail
 refine hKa.out _ _ hS13 ?_
 clear hKa Ka
 refine wpAnyH_one (i := 56) (by kernel_rfl) rfl (by rfl) (fun Ka hKa => ?_)
 go_simp
 with_reducible refine (in_is 4 0 0 [] [] false none 0 0 any_ haA 1 4 5 [] [] false X1 0 d1 spI haI cA cI x13 hlA (by omega) hlI (by omega) (hnA _) (hnI _) false inI2).mono ?_
 rintro e x14 ⟨rfl, hg14⟩
 have hS14 := below_next hS13 (Nat.le_refl _) hg14
 go_wp2_with fail
 refine hKa.out _ _ hS14 ?_
 clear hKa Ka
 refine wpAnyH_yes (i := 57) (d := 94) (v := ?_) rfl rfl (by kernel_rfl) (by kernel_rfl) (by kernel_rfl) (fun _ _ _ h => h) (by rfl) ?_ hS14 ?_
 rotate_left
 ·intro w' hSw; go_simp <;> with_reducible rfl
 simp only [Act.put, List.setIfInBounds_toArray, List.set_cons_zero, List.set_cons_succ]
 refine wpAnyH_yes (i := 58) (d := 95) (v := ?_) rfl rfl (by kernel_rfl) (by kernel_rfl) (by kernel_rfl) (fun _ _ _ h => h) (by rfl) ?_ hS14 ?_
 rotate_left
 ·intro w' hSw; go_simp <;> with_reducible rfl
 simp only [Act.put, List.setIfInBounds_toArray, List.set_cons_zero, List.set_cons_succ]
 refine wpAnyH_yes (i := 59) (d := 0) (v := ?_) rfl rfl (by kernel_rfl) (by kernel_rfl) (by kernel_rfl) (fun _ _ _ h => h) (by rfl) ?_ hS14 ?_
 rotate_left
 ·intro w' hSw; go_simp <;> with_reducible rfl
 simp only [Act.put, List.setIfInBounds_toArray, List.set_cons_zero]
 refine wpAnyH_done (by kernel_rfl) ?_ _
 go_wp2_with fail
 go_ret
 exact ⟨rfl, below_next hBd (Nat.le_refl _) hS14⟩
end Go.Proofs.Ytoffnfooeojhnaa
