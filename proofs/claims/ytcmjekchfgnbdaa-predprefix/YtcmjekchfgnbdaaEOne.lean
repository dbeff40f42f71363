/- One attribute: is it right? Few attributes? -/
import Derived.Test.YtcmjekchfgnbdaaERow
import Derived.Shelf.SlSortCmp.QuietGrown
namespace Go.Proofs.Ytcmjekchfgnbdaa
open Go.RowKit Go.Sort Ev
theorem maxLen_num : maxLen = 9223372036854775807 := rfl
/-- Draws, and new blocks behind. -/
def Grown (w w' : World) : Prop := ∃ q os, w' = grow (w.drewN q) os
theorem Grown.refl (w : World) : Grown w w := ⟨0, #[], by rw [grow_empty]; rfl⟩
theorem Grown.alloc {w w' : World} (h : Grown w w') (o : Obj) : Grown w (w'.alloc o) := by
  obtain ⟨q, os, rfl⟩ := h
  exact ⟨q, os ++ #[o], by rw [alloc_eq_grow, grow_grow]⟩
theorem Grown.trans {a b c : World} (h : Grown a b) (k : Grown b c) : Grown a c := by
  obtain ⟨q, os, rfl⟩ := h
  obtain ⟨q', os', rfl⟩ := k
  exact ⟨q + q', os ++ os', by show grow (grow ((a.drewN q).drewN q') os) os' = _; rw [grow_grow, World.drewN_drewN]⟩
theorem Grown.more {a b : World} (h : Grown a b) (n : Nat) (os : Array Obj) : Grown a (grow (b.drewN n) os) := h.trans ⟨n, os, rfl⟩
theorem Grown.below {w w' : World} (h : Grown w w') : Below w.heap.size w w' := by
  obtain ⟨q, os, rfl⟩ := h
  refine ⟨rfl, rfl, rfl, by simp, fun k hk => ?_⟩
  show (w.heap ++ os)[k]? = _
  rw [Array.getElem?_append_left hk]
theorem ret_bool {a b : Bool} (h : a = b) : Ending.returned (.bool a) = .returned (.bool b) := by rw [h]
set_option maxRecDepth 100000 in
theorem right_gr (k i : Int) (t : List UInt8) (w : World) (hl : t.length ≤ 9223372036854775807) :
    Calls Try.prog 24 #[.agg #[.int .i64 k, .int .i64 i, .string ⟨t.toArray⟩]] w fun e w' => e = .returned (.bool (Vals.right k i t)) ∧ Grown w w' := by
  go_enter Try.func24, Try.ntmps24
  go_wp2
  all_goals (go_ret; refine ⟨congrArg (fun b => Ending.returned (Value.bool b)) ?_, (Grown.refl _).alloc _⟩)
  all_goals (simp_all [Vals.right])
  · cases t <;> rfl
  all_goals omega
set_option maxRecDepth 100000 in
theorem refRight_gr (k i : Int) (t : List UInt8) (w : World) (hl : t.length ≤ 9223372036854775807) :
    Calls Try.prog 26 #[.agg #[.int .i64 k, .int .i64 i, .string ⟨t.toArray⟩]] w fun e w' => e = .returned (.bool (Vals.right k i t)) ∧ Grown w w' := by
  go_enter Try.func26, Try.ntmps26
  go_wp2
  all_goals (go_ret; refine ⟨congrArg (fun b => Ending.returned (Value.bool b)) ?_, (Grown.refl _).alloc _⟩)
  all_goals (simp_all [Vals.right])
  · cases t <;> rfl
  all_goals omega
set_option maxRecDepth 100000 in
theorem few_at (A : Option Addr) (es : List At) (n c : Nat) (hn : es.length = n) (hm : n ≤ maxLen) (hb : ∀ a ∈ es, a.n.length ≤ maxLen ∧ a.t.length ≤ maxLen) (w : World) (hr : RdA w A es) :
    Calls Try.prog 9 #[.slice A n c] w fun e w' => e = .returned (.bool (decide (Few es))) ∧ w' = w := by
  have HN := Lib.hid hn
  rw [maxLen_num] at hm
  simp only [maxLen_num] at hb
  clear hn
  go_enter Try.func9, Try.ntmps9
  go_wp2_with fail
  go_loopw [3] (fun i wr => ∃ k : Nat, k ≤ n ∧ i = .int .i64 (k : Int) ∧ wr = w ∧ Hid (∀ a ∈ es.take k, a.n.length ≤ 100 ∧ a.t.length ≤ 300)) (fun i _ => n - (intOf i).toNat)
  case atStart => exact ⟨0, by omega, rfl, rfl, by show ∀ _, _; simp⟩
  case round =>
    obtain ⟨k, hk, rfl, rfl, HA⟩ := hrel
    by_cases hlt : k < n
    · have hk' : k < es.length := by rw [HN.out]; exact hlt
      obtain ⟨g, off, rfl, hg, c0, c1, c2, c3⟩ := hr.at_ hk'
      have hmem := List.getElem_mem hk'
      obtain ⟨b1, b2⟩ := hb _ hmem
      have HT : Hid (es.take (k + 1) = es.take k ++ [es[k]]) := List.take_succ_eq_append_getElem hk'
      have HM := Lib.hid hmem
      generalize es[k] = z at *
      clear hmem hb
      obtain ⟨zn, zk, zi, zt⟩ := z
      by_cases d1 : zn.length ≤ 100
      · have e1 : decide ((100 : Int) < (zn.length : Int)) = false := by simp; omega
        by_cases d2 : zt.length ≤ 300
        · have e2 : decide ((300 : Int) < (zt.length : Int)) = false := by simp; omega
          have HA2 : Hid (∀ a ∈ es.take (k + 1), a.n.length ≤ 100 ∧ a.t.length ≤ 300) := by
            show ∀ _, _
            rw [HT.out]
            intro a ha
            rcases List.mem_append.1 ha with ha | ha
            · exact HA.out a ha
            · simp at ha; subst ha; exact ⟨d1, d2⟩
          clear d1 d2 HA HT
          go_wp2_with fail
          go_roundw
          case rel => exact ⟨k + 1, by omega, by go_num, trivial, HA2⟩
          case measure => simp [intOf]; omega
        · have e2 : decide ((300 : Int) < (zt.length : Int)) = true := by simp; omega
          have HF : Hid (decide (Few es) = false) := decide_eq_false fun h => d2 (h.2 _ HM.out).2
          clear d1 d2 HA HT HM
          go_wp2_with fail
          go_ret
          exact ⟨ret_bool HF.out.symm, rfl⟩
      · have e1 : decide ((100 : Int) < (zn.length : Int)) = true := by simp; omega
        have HF : Hid (decide (Few es) = false) := decide_eq_false fun h => d1 (h.2 _ HM.out).1
        clear d1 HA HT HM
        go_wp2_with fail
        go_ret
        exact ⟨ret_bool HF.out.symm, rfl⟩
    · have HF : Hid (decide (Few es) = decide ((n : Int) ≤ 40)) := by
        refine decide_eq_decide.2 ?_
        have e : es.take k = es := List.take_of_length_le (by rw [HN.out]; omega)
        have h := HA.out
        rw [e] at h
        unfold Few
        rw [HN.out]
        exact ⟨fun h => by omega, fun h' => ⟨by omega, h⟩⟩
      clear HA hb
      go_wp2_with fail
      go_ret
      exact ⟨ret_bool HF.out.symm, rfl⟩
end Go.Proofs.Ytcmjekchfgnbdaa
