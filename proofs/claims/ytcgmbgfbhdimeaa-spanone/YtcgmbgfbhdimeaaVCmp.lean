/- Package value: how values stand. -/
import Derived.Test.YtcgmbgfbhdimeaaVText
namespace Go.Proofs.Ytcgmbgfbhdimeaa
open Go.RowKit
set_option maxRecDepth 100000 in
theorem nanInt_at (a : Int) (w : World) : Calls Try.prog 81 #[.int .i64 a] w fun e w' => e = .returned (.bool false) ∧ w = w' := by
  go_enter Try.func81, Try.ntmps81
  go_wp2
  go_ret
  exact ⟨by simp, rfl⟩
set_option maxRecDepth 100000 in
theorem cmpInt_at (a b : Int) (w : World) : Calls Try.prog 71 #[.int .i64 a, .int .i64 b] w fun e w' => e = .returned (.int .i64 (Vals.cmpI a b)) ∧ w = w' := by
  go_enter Try.func71, Try.ntmps71
  go_wp2_with fail
  refine (nanInt_at a w).mono ?_
  rintro e w' ⟨rfl, rfl⟩
  go_wp2_with fail
  refine (nanInt_at b w).mono ?_
  rintro e w' ⟨rfl, rfl⟩
  go_wp2
  all_goals (go_ret; refine ⟨ret_int ?_, rfl⟩; simp_all [Vals.cmpI])
  rw [if_neg (by omega), if_neg (by omega)]
def or3 (a b c : Int) : Int := if a ≠ 0 then a else if b ≠ 0 then b else c
set_option maxRecDepth 100000 in
theorem or_at (w : World) (g : Nat) (a b c : Int) (hB : Blk w g 3 #[.int .i64 a, .int .i64 b, .int .i64 c]) :
    Calls Try.prog 70 #[.slice (some ⟨g, 0, none⟩) 3 3] w fun e w' => e = .returned (.int .i64 (or3 a b c)) ∧ w = w' := by
  obtain ⟨c0, c1, c2, f0, f1, f2⟩ := blk3 hB
  go_enter Try.func70, Try.ntmps70
  go_wp2_with fail
  go_loopw [8] (fun x wr => ∃ q : Nat, q ≤ 3 ∧ x = .int .i64 (q : Int) ∧ w = wr ∧ (0 < q → a = 0) ∧ (1 < q → b = 0) ∧ (2 < q → c = 0)) (fun x _ => 3 - (intOf x).toNat)
  case atStart => exact ⟨0, by omega, rfl, rfl, by omega, by omega, by omega⟩
  case round =>
    obtain ⟨q, hq, rfl, rfl, h0, h1, h2⟩ := hrel
    by_cases hlt : q < 3
    · obtain ⟨v, hc, h3, h4⟩ : ∃ v, w.cell? ⟨g, q, none⟩ = some (.int .i64 v) ∧ (v = 0 → (0 < q + 1 → a = 0) ∧ (1 < q + 1 → b = 0) ∧ (2 < q + 1 → c = 0)) ∧ (v ≠ 0 → or3 a b c = v) := by
        have h3 : q = 0 ∨ q = 1 ∨ q = 2 := by omega
        rcases h3 with rfl | rfl | rfl
        · exact ⟨a, c0, fun h => ⟨fun _ => h, by omega, by omega⟩, fun h => by unfold or3; rw [if_pos h]⟩
        · exact ⟨b, c1, fun h => ⟨fun _ => h0 (by omega), fun _ => h, by omega⟩, fun h => by unfold or3; rw [if_neg (by simp [h0]), if_pos h]⟩
        · exact ⟨c, c2, fun h => ⟨fun _ => h0 (by omega), fun _ => h1 (by omega), fun _ => h⟩, fun h => by unfold or3; rw [if_neg (by simp [h0]), if_neg (by simp [h1])]⟩
      clear c0 c1 c2 f0 f1 f2 h0 h1 h2
      have hf := hB.frozen q
      by_cases hv : v = 0
      · have h5 := Lib.hid (h3 hv)
        subst hv
        clear h3 h4
        go_wp2_with fail
        go_roundw
        case rel => exact ⟨q + 1, by omega, by go_num, trivial, h5.out⟩
        case measure => simp [intOf]; omega
      · have hd : (v == 0) = false := by simpa using hv
        have h5 := Lib.hid (h4 hv)
        clear h3 h4 hv
        go_wp2_with fail
        go_ret
        exact ⟨ret_int h5.out.symm, rfl⟩
    · obtain rfl : q = 3 := by omega
      have h5 : Hid (or3 a b c = 0) := by
        show _ = _
        unfold or3
        simp [h0, h1, h2]
      clear c0 c1 c2 f0 f1 f2 h0 h1 h2
      go_wp2_with fail
      go_ret
      exact ⟨ret_int h5.out.symm, rfl⟩
end Go.Proofs.Ytcgmbgfbhdimeaa
