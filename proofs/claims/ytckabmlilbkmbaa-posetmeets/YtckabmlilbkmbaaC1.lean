/- Contracts of the program and of the document (SUse), each used further on. -/
import Derived.Test.YtckabmlilbkmbaaA4
import Derived.Test.YtckabmlilbkmbaaB4
import Derived.Test.YtckabmlilbkmbaaB5
namespace Go.Proofs.Ytckabmlilbkmbaa
open Go.RowKit Go.Sort Spans Op
theorem in_meet {a b r : Sp} (ha : Canon a) (hb : Canon b) (h : IsMeet a b r) : decide (r = a) = inn a b := by
  rw [Bool.eq_iff_iff, decide_eq_true_iff, in_iff ha hb]
  constructor
  · intro e v hv
    subst e
    have := h.has v
    rw [hv] at this
    simpa using this.symm
  · intro hs
    refine Spans.one h.1 ha fun v => ?_
    rw [h.has v]
    cases hv : has a v with
    | false => rfl
    | true => rw [hs v hv]; rfl
set_option maxRecDepth 100000 in
set_option maxHeartbeats 4000000 in
theorem in_at (a b : Sp) (ha : Canon a) (hb : Canon b) (A : Option Addr) (n c : Nat) (A' : Option Addr) (n' c' : Nat) (w : World) (hn : a.no.length = n) (hm : n ≤ 1000) (hn' : b.no.length = n') (hm' : n' ≤ 1000) (hr : RdW w A a.no) (hr' : RdW w A' b.no) (q : Bool) (hq : inn a b = q) :
    Calls Try.prog 31 #[spF a.kind a.lo a.hi a.frm a.to_ a.opn A n c, spF b.kind b.lo b.hi b.frm b.to_ b.opn A' n' c'] w fun e w' => e = .returned (.bool q) ∧ Below w.heap.size w w' := by
  have hmt := fun W hrW hrW' => meet_at a b ha hb A n c A' n' c' W hn hm hn' hm' hrW hrW'
  have HQ : Hid (∀ r, IsMeet a b r → decide (r = a) = q) := fun r h => (in_meet ha hb h).trans hq
  obtain ⟨K, lo, hi, f, t, o, es⟩ := a
  obtain ⟨K', lo', hi', f', t', o', fs⟩ := b
  dsimp only at hn hn' hr hr' hmt ⊢
  have HN := Lib.hid hn
  have HN' := Lib.hid hn'
  clear ha hb hq hn hn'
  have hgr := gr2 w (.cells #[.int .i64 K, .int .i64 lo, .int .i64 hi, .string ⟨f.toArray⟩, .string ⟨t.toArray⟩, .bool o, .slice A n c] 58) (.cells #[.int .i64 K', .int .i64 lo', .int .i64 hi', .string ⟨f'.toArray⟩, .string ⟨t'.toArray⟩, .bool o', .slice A' n' c'] 58)
  have HR := Lib.hid (hr.below hgr.below)
  have HR' := Lib.hid (hr'.below hgr.below)
  have hX := (Blk.new w 58 #[.int .i64 K, .int .i64 lo, .int .i64 hi, .string ⟨f.toArray⟩, .string ⟨t.toArray⟩, .bool o, .slice A n c]).alloc (.cells #[.int .i64 K', .int .i64 lo', .int .i64 hi', .string ⟨f'.toArray⟩, .string ⟨t'.toArray⟩, .bool o', .slice A' n' c'] 58)
  have hY := Blk.new (w.alloc (.cells #[.int .i64 K, .int .i64 lo, .int .i64 hi, .string ⟨f.toArray⟩, .string ⟨t.toArray⟩, .bool o, .slice A n c] 58)) 58 #[.int .i64 K', .int .i64 lo', .int .i64 hi', .string ⟨f'.toArray⟩, .string ⟨t'.toArray⟩, .bool o', .slice A' n' c']
  rw [show (w.alloc (.cells #[.int .i64 K, .int .i64 lo, .int .i64 hi, .string ⟨f.toArray⟩, .string ⟨t.toArray⟩, .bool o, .slice A n c] 58)).heap.size = w.heap.size + 1 by simp] at hY
  have HB := Lib.hid hgr.below
  clear hr hr' hgr
  have HMT := Lib.hid hmt
  clear hmt
  go_enter Try.func31, Try.ntmps31
  go_wp2_with fail
  generalize ((w.alloc (.cells #[.int .i64 K, .int .i64 lo, .int .i64 hi, .string ⟨f.toArray⟩, .string ⟨t.toArray⟩, .bool o, .slice A n c] 58)).alloc (.cells #[.int .i64 K', .int .i64 lo', .int .i64 hi', .string ⟨f'.toArray⟩, .string ⟨t'.toArray⟩, .bool o', .slice A' n' c'] 58)) = w0 at *
  have hS0 : Blk w0.drew w.heap.size 58 #[.int .i64 K, .int .i64 lo, .int .i64 hi, .string ⟨f.toArray⟩, .string ⟨t.toArray⟩, .bool o, .slice A n c] ∧ Blk w0.drew (w.heap.size + 1) 58 #[.int .i64 K', .int .i64 lo', .int .i64 hi', .string ⟨f'.toArray⟩, .string ⟨t'.toArray⟩, .bool o', .slice A' n' c'] := ⟨hX, hY⟩
  have hR0 : RdW w0.drew A es := HR.out.below (Below.refl _ _).drew
  have hR0' : RdW w0.drew A' fs := HR'.out.below (Below.refl _ _).drew
  have hB0 : Below w.heap.size w w0.drew := HB.out.drew
  clear hX hY HR HR' HB
  refine wp_region_held_drew (S := fun w' => Blk w' w.heap.size 58 #[.int .i64 K, .int .i64 lo, .int .i64 hi, .string ⟨f.toArray⟩, .string ⟨t.toArray⟩, .bool o, .slice A n c] ∧ Blk w' (w.heap.size + 1) 58 #[.int .i64 K', .int .i64 lo', .int .i64 hi', .string ⟨f'.toArray⟩, .string ⟨t'.toArray⟩, .bool o', .slice A' n' c']) (by kernel_rfl) hS0 (fun _ => ?_)
  refine wpAnyH_yes (i := 0) (d := 5) (v := ?_) rfl rfl (by kernel_rfl) (by kernel_rfl) (by kernel_rfl) (fun _ _ _ h => h) (by rfl) ?_ hS0 ?_
  rotate_left
  · intro w' hSw; obtain ⟨h7, h8⟩ := hSw; obtain ⟨s0, s1, s2, s3, s4, s5, s6, _⟩ := blk7 h7; obtain ⟨r0, r1, r2, r3, r4, r5, r6, _⟩ := blk7 h8; go_simp <;> with_reducible rfl
  simp only [Act.put, List.setIfInBounds_toArray, List.set_cons_zero, List.set_cons_succ]
  refine wpAnyH_yes (i := 1) (d := 6) (v := ?_) rfl rfl (by kernel_rfl) (by kernel_rfl) (by kernel_rfl) (fun _ _ _ h => h) (by rfl) ?_ hS0 ?_
  rotate_left
  · intro w' hSw; obtain ⟨h7, h8⟩ := hSw; obtain ⟨s0, s1, s2, s3, s4, s5, s6, _⟩ := blk7 h7; obtain ⟨r0, r1, r2, r3, r4, r5, r6, _⟩ := blk7 h8; go_simp <;> with_reducible rfl
  simp only [Act.put, List.setIfInBounds_toArray, List.set_cons_zero, List.set_cons_succ]
  refine wpAnyH_yes (i := 3) (d := 8) (v := ?_) rfl rfl (by kernel_rfl) (by kernel_rfl) (by kernel_rfl) (fun _ _ _ h => h) (by rfl) ?_ hS0 ?_
  rotate_left
  · intro w' hSw; obtain ⟨h7, h8⟩ := hSw; obtain ⟨s0, s1, s2, s3, s4, s5, s6, _⟩ := blk7 h7; obtain ⟨r0, r1, r2, r3, r4, r5, r6, _⟩ := blk7 h8; go_simp <;> with_reducible rfl
  simp only [Act.put, List.setIfInBounds_toArray, List.set_cons_zero, List.set_cons_succ]
  generalize w0.drew = w1 at *
  refine wpAnyH_one (i := 2) (by kernel_rfl) rfl (by rfl) (fun Ka hKa => ?_)
  go_simp
  with_reducible refine (HMT.out w1 hR0 hR0').mono ?_
  rintro e w2 ⟨⟨rK, rlo, rhi, rf, rt, ro, rno⟩, him, hrl, A7, n7, c7, rfl, hl7, hc7, ho7, hb7⟩
  dsimp only at hrl hl7 ho7
  have HIM := Lib.hid him
  have hS1 : Blk w2 w.heap.size 58 #[.int .i64 K, .int .i64 lo, .int .i64 hi, .string ⟨f.toArray⟩, .string ⟨t.toArray⟩, .bool o, .slice A n c] ∧ Blk w2 (w.heap.size + 1) 58 #[.int .i64 K', .int .i64 lo', .int .i64 hi', .string ⟨f'.toArray⟩, .string ⟨t'.toArray⟩, .bool o', .slice A' n' c'] := ⟨Blk.below hS0.1 hb7 hS0.1.lt, Blk.below hS0.2 hb7 hS0.2.lt⟩
  have hR2 := hR0.below hb7
  have hB2 := below_next hB0 (Nat.le_refl _) hb7
  have hR7 := Gives.rd ho7
  have hn7 : n7 ≤ 100000 := by have := HN.out; have := HN'.out; omega
  go_wp2_with fail
  refine hKa.out _ _ hS1 ?_
  clear hKa Ka
  refine wpAnyH_one (i := 4) (by kernel_rfl) rfl (by rfl) (fun Ka hKa => ?_)
  go_simp
  with_reducible refine (spSame_at rK rlo rhi rf rt ro A7 n7 c7 K lo hi f t o A n c w2 rno es hl7 hn7 HN.out (by omega) hR7 hR2).mono ?_
  rintro e w3 ⟨rfl, hg3⟩
  rw [HQ.out _ HIM.out]
  have hS2 : Blk w3 w.heap.size 58 #[.int .i64 K, .int .i64 lo, .int .i64 hi, .string ⟨f.toArray⟩, .string ⟨t.toArray⟩, .bool o, .slice A n c] ∧ Blk w3 (w.heap.size + 1) 58 #[.int .i64 K', .int .i64 lo', .int .i64 hi', .string ⟨f'.toArray⟩, .string ⟨t'.toArray⟩, .bool o', .slice A' n' c'] := ⟨Blk.below hS1.1 hg3.below hS1.1.lt, Blk.below hS1.2 hg3.below hS1.2.lt⟩
  have hB3 := below_next hB2 (Nat.le_refl _) hg3.below
  go_wp2_with fail
  refine hKa.out _ _ hS2 ?_
  clear hKa Ka
  refine wpAnyH_yes (i := 5) (d := 4) (v := ?_) rfl rfl (by kernel_rfl) (by kernel_rfl) (by kernel_rfl) (fun _ _ _ h => h) (by rfl) ?_ hS2 ?_
  rotate_left
  · intro w' hSw; go_simp <;> with_reducible rfl
  simp only [Act.put, List.setIfInBounds_toArray, List.set_cons_zero, List.set_cons_succ]
  refine wpAnyH_done (by kernel_rfl) ?_ _
  go_wp2_with fail
  go_ret
  exact ⟨rfl, hB3⟩
/-- Are predicates few, and short? -/
def fewP (l : List Pr) : Bool := decide (∀ p ∈ l, p.n.length ≤ 100 ∧ p.t.length ≤ 100) && decide (l.length ≤ 24)
/-- What Fold tells. -/
def Folds (w : World) (l : List Pr) (e : Ending) (w' : World) : Prop := ∃ r, IsAll l r ∧ r.no.length ≤ l.length ∧ Gives w r e w'
end Go.Proofs.Ytckabmlilbkmbaa
