/- Package wire: a scan in memory, and what its methods do to it. -/
import Derived.Test.YtcmjekchfgnbdaaWNum
namespace Go.Proofs.Ytcmjekchfgnbdaa
open Go.RowKit
/-- A row of a scan's two cells holds no byte. -/
theorem rd_apart {w : World} {g : Nat} {t : TypeId} {a : Option Addr} {n c : Nat} {z : Int} {A : Option Addr} {bs : List UInt8} (hB : Blk w g t #[.slice a n c, .int .i64 z]) (hr : Rd w A bs) (off : Nat) : A ≠ some ⟨g, off, none⟩ ∨ bs = [] := by
  rcases hr with rfl | ⟨g', off', rfl, hg, hc⟩
  · exact .inr rfl
  · by_cases h0 : bs = []
    · exact .inr h0
    · refine .inl fun e => ?_
      cases e
      have hl : 0 < bs.length := List.length_pos_iff.2 h0
      have h := hc 0 hl
      rw [hB.cell] at h
      rcases off with _ | _ | off
      · simp at h
      · simp at h
      · simp at h
/-- A scan in block g. -/
def Sc (w : World) (g : Nat) (t : TypeId) (s : Wire.St) : Prop :=
  ∃ A n cap, Blk w g t #[.slice A n cap, .int .i64 s.err] ∧ s.rest.length = n ∧ n ≤ cap ∧ cap ≤ 140737488355328 ∧ Rd w A s.rest
theorem Sc.lt {w : World} {g : Nat} {t : TypeId} {s : Wire.St} (h : Sc w g t s) : g < w.heap.size := by
  obtain ⟨A, n, cap, hB, _⟩ := h
  exact hB.lt
theorem Sc.below {w w' : World} {g : Nat} {t : TypeId} {s : Wire.St} (h : Sc w g t s) (hb : Below w.heap.size w w') : Sc w' g t s := by
  obtain ⟨A, n, cap, hB, h1, h2, h3, hr⟩ := h
  exact ⟨A, n, cap, hB.below hb hB.lt, h1, h2, h3, hr.below hb⟩
theorem left_at (w : World) (g : Nat) (s : Wire.St) (h : Sc w g 64 s) (n : Nat) (hn : s.rest.length = n) :
    Calls Try.prog 21 #[.pointer (some ⟨g, 0, none⟩)] w fun e w' => e = .returned (.int .i64 (n : Int)) ∧ w = w' := by
  obtain ⟨A, n', cap, hB, h1, h2, h3, hr⟩ := h
  obtain rfl : n = n' := by omega
  obtain ⟨c0, c1, f0, f1⟩ := blk2 hB
  clear hn h1
  go_enter Try.func21, Try.ntmps21
  go_wp2
  go_ret
  exact ⟨rfl, rfl⟩
theorem err_at (w : World) (g : Nat) (s : Wire.St) (h : Sc w g 64 s) (z : Int) (hz : s.err = z) :
    Calls Try.prog 22 #[.pointer (some ⟨g, 0, none⟩)] w fun e w' => e = .returned (.int .i64 z) ∧ w = w' := by
  subst hz
  obtain ⟨A, n', cap, hB, h1, h2, h3, hr⟩ := h
  obtain ⟨c0, c1, f0, f1⟩ := blk2 hB
  clear h1
  go_enter Try.func22, Try.ntmps22
  go_wp2
  go_ret
  exact ⟨rfl, rfl⟩
theorem end_at (w : World) (g : Nat) (s : Wire.St) (h : Sc w g 64 s) (z : Int) (hz : s.endE = z) :
    Calls Try.prog 23 #[.pointer (some ⟨g, 0, none⟩)] w fun e w' => e = .returned (.int .i64 z) ∧ w = w' := by
  obtain ⟨A, n, cap, hB, h1, h2, h3, hr⟩ := h
  obtain ⟨c0, c1, f0, f1⟩ := blk2 hB
  unfold Wire.St.endE at hz
  rw [h1] at hz
  clear h1
  obtain ⟨rest, err⟩ := s
  simp only at hz c1
  clear hB hr
  by_cases he : err = 0
  · subst he
    by_cases hn : n = 0
    · subst hn
      obtain rfl : z = 0 := by rw [← hz]; simp
      clear hz
      go_enter Try.func23, Try.ntmps23
      go_wp2
      go_ret
      exact ⟨rfl, rfl⟩
    · have hn' : 0 < n := by omega
      have hd : decide ((0 : Int) < (n : Int)) = true := by simp; omega
      obtain rfl : z = 5 := by rw [← hz]; simp [hn']
      clear hz
      go_enter Try.func23, Try.ntmps23
      go_wp2
      go_ret
      exact ⟨rfl, rfl⟩
  · have hd : (err == 0) = false := by simpa using he
    obtain rfl : err = z := by rw [← hz, if_neg (fun h => he h.1)]
    clear hz
    go_enter Try.func23, Try.ntmps23
    go_wp2
    go_ret
    exact ⟨rfl, rfl⟩
set_option maxRecDepth 100000 in
theorem fail_at (w : World) (g : Nat) (s : Wire.St) (h : Sc w g 64 s) (z : Int) :
    Calls Try.prog 57 #[.pointer (some ⟨g, 0, none⟩), .int .i64 z] w fun e w' => e = .returned (.tuple #[]) ∧ Sc w' g 64 (s.fail z) ∧ Touch g w w' := by
  have h0 := h
  obtain ⟨A, n, cap, hB, h1, h2, h3, hr⟩ := h
  obtain ⟨c0, c1, f0, f1⟩ := blk2 hB
  clear h1
  obtain ⟨rest, err⟩ := s
  simp only at *
  by_cases he : err = 0
  · subst he
    by_cases hz : z = 0
    · subst hz
      go_enter Try.func57, Try.ntmps57
      go_wp2
      (try simp only [Exit.inBlock, Exit.then])
      refine bodyPost_ret (results_none rfl _ _ _) rfl ?_
      exact ⟨rfl, h0, Touch.refl _ _⟩
    · have hd : (z == 0) = false := by simpa using hz
      go_enter Try.func57, Try.ntmps57
      go_wp2
      go_end0
      refine ⟨rfl, ?_, ((Touch.refl _ _).set_ _ _).set_ _ _⟩
      unfold Wire.St.fail
      rw [if_pos ⟨rfl, hz⟩]
      refine ⟨none, 0, 0, ?_, rfl, by omega, by omega, .inl rfl⟩
      exact (hB.put 1 (.int .i64 z)).put 0 (.slice none 0 0)
  · have hd : (err != 0) = true := by simpa using he
    go_enter Try.func57, Try.ntmps57
    go_wp2
    (try simp only [Exit.inBlock, Exit.then])
    refine bodyPost_ret (results_none rfl _ _ _) rfl ?_
    refine ⟨rfl, ?_, Touch.refl _ _⟩
    unfold Wire.St.fail
    rw [if_neg (fun h => he h.1)]
    exact h0
end Go.Proofs.Ytcmjekchfgnbdaa
