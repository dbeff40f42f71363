/- Package wire: a scan in memory, and what its methods do to it. -/
import Derived.Test.YtgadpdjhnlblaaaWNum
namespace Go.Proofs.Ytgadpdjhnlblaaa
open Go.RowKit
/-- Only block g may have turned, and new blocks may be there. -/
def Touch (g : Nat) (w w' : World) : Prop := w.grownBy w' (some g)
theorem Touch.refl (g : Nat) (w : World) : Touch g w w := World.grownBy.refl w _
theorem Touch.trans {g : Nat} {a b c : World} (h : Touch g a b) (k : Touch g b c) : Touch g a c := World.grownBy.trans h k
theorem Touch.set_ {g : Nat} {a w : World} (h : Touch g a w) (i : Nat) (v : Value) : Touch g a (w.setCell ⟨g, i, none⟩ v) :=
  h.trans ⟨rfl, rfl, rfl, by simp [World.setCell], fun k _ hk => Below.heap_setCell w ⟨g, i, none⟩ v k (fun e => hk (by rw [e]))⟩
theorem Touch.of_below {g : Nat} {w w' : World} (h : Below w.heap.size w w') : Touch g w w' := ⟨h.os, h.tape, h.output, h.size, fun k hk _ => h.block k hk⟩
theorem Touch.below {g B : Nat} {w0 w w' : World} (h : Touch g w w') (hb : Below B w0 w) (hB : B ≤ w.heap.size) (hg : B ≤ g) : Below B w0 w' :=
  hb.grown h hB (fun k hk => by cases hk; exact hg)
theorem Touch.blk {g g' : Nat} {w w' : World} {t : TypeId} {cs : Array Value} (h : Touch g w w') (hB : Blk w g' t cs) (hne : g' ≠ g) : Blk w' g' t cs :=
  (World.grownBy.block h g' hB.lt (fun e => hne (by cases e; rfl))).trans hB
theorem Touch.size {g : Nat} {w w' : World} (h : Touch g w w') : w.heap.size ≤ w'.heap.size := World.grownBy.size h
/-- Bytes that do not lie in block g are read as before. -/
theorem Touch.rd {g : Nat} {w w' : World} {A : Option Addr} {bs : List UInt8} (h : Touch g w w') (hr : Rd w A bs) (hne : ∀ off, A ≠ some ⟨g, off, none⟩ ∨ bs = []) : Rd w' A bs := by
  rcases hr with rfl | ⟨g', off, rfl, hg, hc⟩
  · exact .inl rfl
  · rcases hne off with hn | rfl
    · refine .inr ⟨g', off, rfl, Nat.lt_of_lt_of_le hg h.size, fun i hi => ?_⟩
      have e := World.grownBy.block h g' hg (fun e => hn (by cases e; rfl))
      exact (World.cell?_of_block (a := ⟨g', off + i, none⟩) e).trans (hc i hi)
    · exact .inl rfl
/-- A row of a scan's two cells holds no byte. -/
theorem rd_apart {w : World} {g : Nat} {t : TypeId} {a : Option Addr} {n c : Nat} {z : Int} {A : Option Addr} {bs : List UInt8} (hB : Blk w g t #[.slice a n c, .int .i64 z]) (hr : Rd w A bs) (off : Nat) : A ≠ some ⟨g, off, none⟩ ∨ bs = [] := by
  rcases hr with rfl | ⟨g', off', rfl, hg, hc⟩
  · exact .inr rfl
  · by_cases h0 : bs = []
    · exact .inr h0
    · refine .inl fun e => ?_
      cases e
      have hl : 0 < bs.length := List.length_pos_iff.2 h0
      have h := hc 0 hl
      rw [hB.cell] at h
      rcases off with _ | _ | off
      · simp at h
      · simp at h
      · simp at h
/-- A scan in block g. -/
def Sc (w : World) (g : Nat) (t : TypeId) (s : Wire.St) : Prop :=
  ∃ A n cap, Blk w g t #[.slice A n cap, .int .i64 s.err] ∧ s.rest.length = n ∧ n ≤ cap ∧ cap ≤ 140737488355328 ∧ Rd w A s.rest
theorem Sc.lt {w : World} {g : Nat} {t : TypeId} {s : Wire.St} (h : Sc w g t s) : g < w.heap.size := by
  obtain ⟨A, n, cap, hB, _⟩ := h
  exact hB.lt
theorem Sc.below {w w' : World} {g : Nat} {t : TypeId} {s : Wire.St} (h : Sc w g t s) (hb : Below w.heap.size w w') : Sc w' g t s := by
  obtain ⟨A, n, cap, hB, h1, h2, h3, hr⟩ := h
  exact ⟨A, n, cap, hB.below hb hB.lt, h1, h2, h3, hr.below hb⟩
/-- A cut off the front, as the model spells it. -/
theorem run_cut {w : World} {A : Option Addr} {bs : List UInt8} {n cap k : Nat} (hr : Rd w A bs) (hn : bs.length = n) (hk : k ≤ n) (hc : n ≤ cap) :
    ∃ A', (∀ W, (Instr.slice 22 (.slice A n cap) (some (.int .i64 (k : Int))) none none).run Try.prog W = .ok (.slice A' (n - k) (cap - k)) W) ∧ Rd w A' (bs.drop k) := by
  by_cases hck : cap = k
  · refine ⟨A, fun W => ?_, .inl (List.drop_eq_nil_of_le (by omega))⟩
    have h1 : (0 : Int) ≤ (k : Int) := by omega
    have h2 : (k : Int) ≤ (n : Int) := by omega
    subst hck
    go_simp
  · refine ⟨A.map fun x => x.add k, fun W => ?_, ?_⟩
    · have h1 : (0 : Int) ≤ (k : Int) := by omega
      have h2 : (k : Int) ≤ (n : Int) := by omega
      go_simp
    · rcases hr with rfl | ⟨g, off, rfl, hg, hcell⟩
      · exact .inl (by simp)
      · refine .inr ⟨g, off + k, by simp [add_lit], hg, fun i hi => ?_⟩
        have hi' : k + i < bs.length := by simp at hi; omega
        rw [List.getElem_drop, Nat.add_assoc]; exact hcell (k + i) hi'
/-- What the walk asks of a scan's block. -/
theorem blk2 {w : World} {g : Nat} {t : TypeId} {a b : Value} (hB : Blk w g t #[a, b]) :
    w.cell? ⟨g, 0, none⟩ = some a ∧ w.cell? ⟨g, 1, none⟩ = some b ∧ w.frozen? ⟨g, 0, none⟩ = false ∧ w.frozen? ⟨g, 1, none⟩ = false :=
  ⟨hB.cell 0, hB.cell 1, hB.frozen 0, hB.frozen 1⟩
theorem left_at (w : World) (g : Nat) (s : Wire.St) (h : Sc w g 54 s) (n : Nat) (hn : s.rest.length = n) :
    Calls Try.prog 26 #[.pointer (some ⟨g, 0, none⟩)] w fun e w' => e = .returned (.int .i64 (n : Int)) ∧ w = w' := by
  obtain ⟨A, n', cap, hB, h1, h2, h3, hr⟩ := h
  obtain rfl : n = n' := by omega
  obtain ⟨c0, c1, f0, f1⟩ := blk2 hB
  clear hn h1
  go_enter Try.func26, Try.ntmps26
  go_wp2
  go_ret
  exact ⟨rfl, rfl⟩
theorem err_at (w : World) (g : Nat) (s : Wire.St) (h : Sc w g 54 s) (z : Int) (hz : s.err = z) :
    Calls Try.prog 27 #[.pointer (some ⟨g, 0, none⟩)] w fun e w' => e = .returned (.int .i64 z) ∧ w = w' := by
  subst hz
  obtain ⟨A, n', cap, hB, h1, h2, h3, hr⟩ := h
  obtain ⟨c0, c1, f0, f1⟩ := blk2 hB
  clear h1
  go_enter Try.func27, Try.ntmps27
  go_wp2
  go_ret
  exact ⟨rfl, rfl⟩
theorem end_at (w : World) (g : Nat) (s : Wire.St) (h : Sc w g 54 s) (z : Int) (hz : s.endE = z) :
    Calls Try.prog 28 #[.pointer (some ⟨g, 0, none⟩)] w fun e w' => e = .returned (.int .i64 z) ∧ w = w' := by
  obtain ⟨A, n, cap, hB, h1, h2, h3, hr⟩ := h
  obtain ⟨c0, c1, f0, f1⟩ := blk2 hB
  unfold Wire.St.endE at hz
  rw [h1] at hz
  clear h1
  obtain ⟨rest, err⟩ := s
  simp only at hz c1
  clear hB hr
  by_cases he : err = 0
  · subst he
    by_cases hn : n = 0
    · subst hn
      obtain rfl : z = 0 := by rw [← hz]; simp
      clear hz
      go_enter Try.func28, Try.ntmps28
      go_wp2
      go_ret
      exact ⟨rfl, rfl⟩
    · have hn' : 0 < n := by omega
      have hd : decide ((0 : Int) < (n : Int)) = true := by simp; omega
      obtain rfl : z = 5 := by rw [← hz]; simp [hn']
      clear hz
      go_enter Try.func28, Try.ntmps28
      go_wp2
      go_ret
      exact ⟨rfl, rfl⟩
  · have hd : (err == 0) = false := by simpa using he
    obtain rfl : err = z := by rw [← hz, if_neg (fun h => he h.1)]
    clear hz
    go_enter Try.func28, Try.ntmps28
    go_wp2
    go_ret
    exact ⟨rfl, rfl⟩
set_option maxRecDepth 100000 in
theorem fail_at (w : World) (g : Nat) (s : Wire.St) (h : Sc w g 54 s) (z : Int) :
    Calls Try.prog 24 #[.pointer (some ⟨g, 0, none⟩), .int .i64 z] w fun e w' => e = .returned (.tuple #[]) ∧ Sc w' g 54 (s.fail z) ∧ Touch g w w' := by
  have h0 := h
  obtain ⟨A, n, cap, hB, h1, h2, h3, hr⟩ := h
  obtain ⟨c0, c1, f0, f1⟩ := blk2 hB
  clear h1
  obtain ⟨rest, err⟩ := s
  simp only at *
  by_cases he : err = 0
  · subst he
    by_cases hz : z = 0
    · subst hz
      go_enter Try.func24, Try.ntmps24
      go_wp2
      (try simp only [Exit.inBlock, Exit.then])
      refine bodyPost_ret (results_none rfl _ _ _) rfl ?_
      exact ⟨rfl, h0, Touch.refl _ _⟩
    · have hd : (z == 0) = false := by simpa using hz
      go_enter Try.func24, Try.ntmps24
      go_wp2
      go_end0
      refine ⟨rfl, ?_, ((Touch.refl _ _).set_ _ _).set_ _ _⟩
      unfold Wire.St.fail
      rw [if_pos ⟨rfl, hz⟩]
      refine ⟨none, 0, 0, ?_, rfl, by omega, by omega, .inl rfl⟩
      exact (hB.put 1 (.int .i64 z)).put 0 (.slice none 0 0)
  · have hd : (err != 0) = true := by simpa using he
    go_enter Try.func24, Try.ntmps24
    go_wp2
    (try simp only [Exit.inBlock, Exit.then])
    refine bodyPost_ret (results_none rfl _ _ _) rfl ?_
    refine ⟨rfl, ?_, Touch.refl _ _⟩
    unfold Wire.St.fail
    rw [if_neg (fun h => he h.1)]
    exact h0
end Go.Proofs.Ytgadpdjhnlblaaa
