/- rosetteref03.Same, at rows that are alike. -/
import Derived.Test.YtncpbmokbnjjoaaOpn
import Derived.Test.YtncpbmokbnjjoaaArgs
namespace Go.Proofs.Ytncpbmokbnjjoaa
open Go.RowKit
set_option maxRecDepth 100000 in
set_option maxHeartbeats 400000 in
theorem same_at (A B : Option Addr) (xss : List (List UInt8)) (n c d : Nat) (hn : xss.length = n) (hnn : n ≤ 140737488351232) (w : World) (ra : RdL w A xss) (rb : RdL w B xss) :
    Calls Try.prog 15 #[.slice A n c, .slice B n d] w fun e w' => e = .returned (.bool true) ∧ Below w.heap.size w w' := by
  have HN := Lib.hid hn
  clear hn
  go_enter Try.func15, Try.ntmps15
  go_wp2_with fail
  go_loopw [5] (fun i wr => ∃ k : Nat, k ≤ n ∧ i = .int .i64 (k : Int) ∧ Below w.heap.size w wr) (fun i _ => n - (intOf i).toNat)
  case atStart => exact ⟨0, by omega, rfl, Below.refl _ _⟩
  case round =>
    obtain ⟨k, hk, rfl, hb⟩ := hrel
    by_cases hlt : k < n
    · obtain ⟨g1, o1, B1, c1, rfl, hg1, hc1, _, hr1⟩ := (ra.below hb).at_ (k := k) (by rw [HN.out]; exact hlt)
      obtain ⟨g2, o2, B2, c2, rfl, hg2, hc2, _, hr2⟩ := (rb.below hb).at_ (k := k) (by rw [HN.out]; exact hlt)
      obtain ⟨x, hx⟩ : ∃ x, xss[k]'(by rw [HN.out]; exact hlt) = x := ⟨_, rfl⟩
      rw [hx] at hc1 hc2 hr1 hr2
      clear hx
      obtain ⟨q, hq⟩ : ∃ q, x.length = q := ⟨_, rfl⟩
      have HQ := Lib.hid hq
      rw [hq] at hc1 hc2
      clear hq
      have s1 := run_strN (P := Try.prog) wr B1 x q c1 hr1 HQ.out 22 5 9 Try.underlying22 Try.underlying5 Try.underlying9
      have s2 := run_strN (P := Try.prog) wr B2 x q c2 hr2 HQ.out 22 5 9 Try.underlying22 Try.underlying5 Try.underlying9
      clear hr1 hr2
      go_wp2_with fail
      go_quiet (fail)
      go_wp2_with fail
      go_roundw
      case rel => exact ⟨k + 1, by omega, by go_num, below_drewN hb _⟩
      case measure => simp [intOf]; omega
    · go_wp2_with fail
      go_ret
      exact ⟨rfl, hb⟩
end Go.Proofs.Ytncpbmokbnjjoaa
