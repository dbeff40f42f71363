/- Package frame: the iterator 'frames'. -/
import Derived.Test.YtncpbmokbnjjoaaFNext
import Derived.RangeFuncNested
import Derived.RangeFuncBound
import Derived.RangeFuncCalls
import Derived.RangeFuncLeaves
import Derived.Shelf.Abstract
import Derived.Shelf.RegionOpen
import Derived.OwnWalkIn
import Derived.TacticsInMore
import Derived.LoopNIn
import Derived.LoopIn
namespace Go.Proofs.Ytncpbmokbnjjoaa
open Go.RowKit Go.Shelf
attribute [local go_sem] Oper.semAt_some
/-- How long a slice is. -/
def slen : Value → Nat
  | .slice _ n _ => n
  | _ => 0
/-- 'frames(b)': the argument is boxed; the function value captures the box. -/
theorem frames_in (A : Option Addr) (n cap : Nat) (m : Nat) (w : World) :
    CallsIn Fence.wide m Try.prog 25 #[.slice A n cap] w fun e w' => e = .returned (.func (.func 30) #[] #[.pointer (some ⟨w.heap.size, 0, none⟩)]) ∧ w' = w.alloc (.cells #[.slice A n cap] 22) := by
  refine callsIn_of_wp Try.func25 rfl trivial ?_ rfl
  simp only [Try.ntmps25, List.size_toArray, List.length_cons, List.length_nil, Nat.reduceAdd, Nat.reduceSub, Array.replicate_succ, Array.replicate_zero, List.push_toArray, List.append_toArray, List.nil_append, List.cons_append]
  gi_wp2
  go_ret
  exact ⟨rfl, rfl⟩
set_option maxRecDepth 100000 in
set_option maxHeartbeats 1000000 in
/-- The function that is ranged over, for every body of a loop: J holds between two rounds, k bytes having been handed over; Jx where a round said 'no more'. -/
theorem frames1_in (m l Bn : Nat) (w0 : World) (A : Option Addr) (bs : List UInt8) (n cap : Nat) (hn : bs.length = n) (hc : n ≤ cap) (hm : n ≤ 140737488351232) (rd : Rd w0 A bs) (J : Nat → World → Prop) (Jx : World → Prop)
    (hJB : ∀ k W, J k W → Below w0.heap.size w0 W) (hJ : ∀ k W W', J k W → Below W.heap.size W W' → J k W')
    (hY : ∀ k g s W, J k W → k < n → Frm.err (bs.drop k) = 0 → Frm.hd (bs.drop k) = s → w0.heap.size ≤ g → Blk W g 5 ((Frm.body (bs.drop k)).map Bv).toArray →
      YieldAt Fence.wide (m - 1) Try.prog l #[.agg #[.slice (some ⟨g, 0, none⟩) s s, .int .i64 (10 + (s : Int)), .int .i64 0]] W fun e W' => e = .returned (.bool true) ∧ J (k + (10 + s)) W')
    (hE : ∀ k x W, J k W → k < n → Frm.err (bs.drop k) = x → x ≠ 0 →
      YieldAt Fence.wide (m - 1) Try.prog l #[.agg #[.slice none 0 0, .int .i64 0, .int .i64 (x : Int)]] W fun e W' => e = .returned (.bool false) ∧ Jx W')
    (W : World) (hBn : W.cell? ⟨Bn, 0, none⟩ = some (.slice A n cap)) (h0 : J 0 W) :
    CallsIn Fence.wide m Try.prog 30 #[.func (.yield l) #[] #[], .pointer (some ⟨Bn, 0, none⟩)] W fun e W' => (∃ v, e = .returned v) ∧ (J n W' ∨ Jx W') := by
  have HN := Lib.hid hn
  clear hn
  refine callsIn_of_wp Try.func30 rfl trivial ?_ rfl
  simp only [Try.ntmps30, List.size_toArray, List.length_cons, List.length_nil, Nat.reduceAdd, Nat.reduceSub, Array.replicate_succ, Array.replicate_zero, List.push_toArray, List.append_toArray, List.nil_append, List.cons_append]
  gi_wp2
  gi_loopw [3] (fun r wr => ∃ (k q c : Nat) (A' : Option Addr), k + q = n ∧ r = .slice A' q c ∧ q ≤ c ∧ q ≤ 140737488351232 ∧ Rd w0 A' (bs.drop k) ∧ J k wr) (fun r _ => slen r)
  case atStart =>
    exact ⟨0, n, cap, A, by omega, rfl, hc, hm, by simpa using rd, h0⟩
  case round =>
    obtain ⟨k, q, c, A', hkq, rfl, hqc, hcm, hrd, hJs⟩ := hrel
    have HL : Hid ((bs.drop k).length = q) := by rw [Hid, List.length_drop, HN.out]; omega
    by_cases hq : q = 0
    · subst hq
      gi_wp2
      go_end0
      obtain rfl : k = n := by omega
      exact ⟨⟨_, rfl⟩, .inl hJs⟩
    · have hd : 0 < q := by omega
      have hdi : decide (0 < (q : Int)) = true := by simp; omega
      have hb0 := hJB k wr hJs
      by_cases he : Frm.err (bs.drop k) = 0
      · obtain ⟨s, hs⟩ : ∃ s, Frm.hd (bs.drop k) = s := ⟨_, rfl⟩
        have hok := (Frm.err_ok he).2.2.2.1
        rw [hs, HL.out] at hok
        obtain ⟨A2, hsl, hr2⟩ := run_cut (n := q) (cap := c) (k := 10 + s) hrd HL.out hok hqc
        have hsl' : ∀ W, (Instr.slice 22 (.slice A' q c) (some (.int .i64 (10 + (s : Int)))) none none).run Try.prog W = .ok (.slice A2 (q - (10 + s)) (c - (10 + s))) W := fun W => by
          have := hsl W
          rw [show ((10 + s : Nat) : Int) = 10 + (s : Int) by omega] at this
          exact this
        clear hsl
        rw [List.drop_drop] at hr2
        gi_wp2
        refine ⟨trivial, fun h => (by cases h), (callsIn_wide.2 (next_good A' (bs.drop k) q s c HL.out hqc hcm _ (hrd.below hb0) he hs)).mono ?_⟩
        rintro e w1 ⟨g, rfl, hg, hb1, hB1⟩
        obtain ⟨fn, tmps, assign, body, hy, hR⟩ := hY k g s w1 (hJ k _ _ hJs hb1) (by omega) he hs (Nat.le_trans hb0.size hg) hB1
        gi_wp2
        refine ⟨fun h => (by cases h), hR.mono ?_⟩
        rintro e W3 ⟨rfl, hJ3⟩
        gi_wp2
        go_roundw
        case rel => exact ⟨k + (10 + s), q - (10 + s), c - (10 + s), A2, by omega, rfl, by omega, by omega, hr2, hJ3⟩
        case measure => simp [slen]; omega
      · obtain ⟨x, hx⟩ : ∃ x, Frm.err (bs.drop k) = x := ⟨_, rfl⟩
        rw [hx] at he
        have hxi : ((x : Int) != 0) = true := by simpa using he
        gi_wp2
        refine ⟨trivial, fun h => (by cases h), (callsIn_wide.2 (next_bad A' (bs.drop k) q x c HL.out hqc hcm _ (hrd.below hb0) hx he)).mono ?_⟩
        rintro e w1 ⟨rfl, hb1⟩
        obtain ⟨fn, tmps, assign, body, hy, hR⟩ := hE k x w1 (hJ k _ _ hJs hb1) (by omega) hx he
        gi_wp2
        refine ⟨fun h => (by cases h), hR.mono ?_⟩
        rintro e W3 ⟨rfl, hJx⟩
        gi_wp2
        refine bodyPost_ret (results_none rfl _ _ _) rfl ?_
        exact ⟨⟨_, rfl⟩, .inr hJx⟩
end Go.Proofs.Ytncpbmokbnjjoaa
