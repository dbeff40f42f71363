/- The document's own answer for all frames (rosetteref03.All). -/
import Derived.Test.YtncpbmokbnjjoaaFRef
namespace Go.Proofs.Ytncpbmokbnjjoaa
open Go.RowKit
set_option maxRecDepth 100000 in
set_option maxHeartbeats 800000 in
theorem rall_in (A : Option Addr) (bs : List UInt8) (n cap : Nat) (hn : bs.length = n) (hc : n ≤ cap) (hm : n ≤ 4294967296) (w : World) (rd : Rd w A bs) :
    Calls Try.prog 14 #[.slice A n cap] w fun e w' => ∃ B c, e = .returned (.tuple #[.slice B (Frm.all bs).1.length c, .int .i64 ((Frm.all bs).2.1 : Int), .int .i64 ((Frm.all bs).2.2 : Int)]) ∧
      (Frm.all bs).1.length ≤ c ∧ RdL w' B (Frm.all bs).1 ∧ Below w.heap.size w w' := by
  have HN := Lib.hid hn
  clear hn
  obtain ⟨j0, hj0, hy0, hy1, hy2⟩ := info_parts row_info
  obtain ⟨ALL, hALL⟩ : ∃ ALL, Frm.all bs = ALL := ⟨_, rfl⟩
  have HALL := Lib.hid hALL
  rw [hALL]
  clear hALL
  go_enter Try.func14, Try.ntmps14
  go_wp2_with fail
  go_loopw [5, 6] (fun v i wr => ∃ (k : Nat) (vs : List Value) (xss : List (List UInt8)), k ≤ n ∧ i = .int .i64 (k : Int) ∧ Below w.heap.size w wr ∧ wr.ownsRow w.heap.size 22 1 v xss.length vs ∧ EachO wr w.heap.size vs xss ∧ xss.length ≤ k ∧
    Hid (Frm.all bs = (xss ++ (Frm.all (bs.drop k)).1, k + (Frm.all (bs.drop k)).2.1, (Frm.all (bs.drop k)).2.2))) (fun _ i _ => n - (intOf i).toNat)
  case atStart => exact ⟨0, [], [], by omega, rfl, Below.refl _ _, World.ownsRow_nil _ _ _ _, EachO.nil _ _, by simp, by simp [Hid]⟩
  case round =>
    obtain ⟨k, vs, xss, hk, rfl, hbw, hrow, hE, hxk, HA⟩ := hrel
    by_cases hlt : k < n
    · obtain ⟨A2, hsl, hr2⟩ := run_cut (n := n) (cap := cap) (k := k) rd HN.out hk hc
      have HL : Hid ((bs.drop k).length = n - k) := by rw [Hid, List.length_drop, HN.out]
      by_cases he : Frm.err (bs.drop k) = 0
      · obtain ⟨s, hs⟩ : ∃ s, Frm.hd (bs.drop k) = s := ⟨_, rfl⟩
        have hok := (Frm.err_ok he).2.2.2.1
        rw [hs, HL.out] at hok
        have HE := Lib.hid he
        have HS := Lib.hid hs
        clear he hs
        go_wp2_with fail
        refine (rnext_good A2 (bs.drop k) (n - k) s (cap - k) HL.out (by omega) (by omega) _ (hr2.below hbw) HE.out HS.out).mono ?_
        rintro e w2 ⟨B2, c2, rfl, hb2, hO2⟩
        replace hO2 := hO2.lower hbw.size
        replace hrow := ownsRow_at hrow hb2
        replace hE := hE.below hb2
        replace hbw := below_next hbw (Nat.le_refl _) hb2
        clear hb2 hr2 hsl
        have hRV : RdV (w2.alloc (.cells #[.slice B2 s c2] 22)) (some ⟨w2.heap.size, 0, none⟩) [.slice B2 s c2] := .inr ⟨_, 0, rfl, by simp, fun i hi => by
          have hB := Blk.new w2 22 #[.slice B2 s c2]
          obtain rfl : i = 0 := by simp at hi; omega
          rw [Nat.zero_add, hB.cell 0]; rfl⟩
        have hrow' := ownsRow_at hrow ((Below.refl _ w2).alloc (Nat.le_refl _) (.cells #[.slice B2 s c2] 22))
        have hE' := (hE.snoc hO2).below ((Below.refl _ w2).alloc (Nat.le_refl _) (.cells #[.slice B2 s c2] 22))
        go_wp2_with (at_builtin; refine wpList_append_vg (by rfl) (.tmp 27) (.tmp 29) 29 rfl w.heap.size 22 j0 (.slice none 0 0) 24 Try.underlying29 hj0 hy0 hy1 hy2 rfl _ vs xss.length (by rfl) hrow' (some ⟨w2.heap.size, 0, none⟩) [.slice B2 s c2] 1 1 (by rfl) hRV rfl (by simp [Value.oneCell']) (by unfold maxLen; omega) (by omega) (by have := hbw.size; simp; omega) ?_; intro v3 w3 hO3 hg3 hb3')
        have hb3 := hb3' w (hbw.alloc hbw.size _)
        go_roundw
        case rel =>
          refine ⟨k + (10 + s), vs ++ [.slice B2 s c2], xss ++ [Frm.body (bs.drop k)], by omega, by go_num, hb3, ?_, hE'.grew hrow' hg3, by simp; omega, ?_⟩
          · rw [List.length_append]; exact hO3
          · rw [Hid, HA.out, Frm.all_good HE.out, List.drop_drop, show Frm.size (bs.drop k) = 10 + s by unfold Frm.size; rw [HS.out]]
            simp; omega
        case measure => simp [intOf]; omega
      · obtain ⟨x, hx⟩ : ∃ x, Frm.err (bs.drop k) = x := ⟨_, rfl⟩
        rw [hx] at he
        have hxi : ((x : Int) != 0) = true := by simpa using he
        have hne : bs.drop k ≠ [] := by
          intro h
          have hl : (bs.drop k).length = 0 := by rw [h]; rfl
          rw [HL.out] at hl; omega
        have HALL2 : Hid (ALL = (xss, k, x)) := by
          rw [Hid, ← HALL.out, HA.out, Frm.all_bad hne (by rw [hx]; exact he), hx]; simp
        have HX := Lib.hid hx
        clear hx hne
        go_wp2_with fail
        refine (rnext_bad A2 (bs.drop k) (n - k) x (cap - k) HL.out (by omega) (by omega) _ (hr2.below hbw) HX.out he).mono ?_
        rintro e w2 ⟨rfl, hb2⟩
        replace hrow := ownsRow_at hrow hb2
        replace hE := hE.below hb2
        replace hbw := below_next hbw (Nat.le_refl _) hb2
        obtain ⟨B, c, rfl, hcc, hR⟩ := rdl_of_row hE.each rfl hrow
        go_wp2_with fail
        go_ret3
        rw [HALL2.out]
        exact ⟨B, c, rfl, hcc, hR, hbw⟩
    · obtain rfl : k = n := by omega
      have HALL2 : Hid (ALL = (xss, k, 0)) := by
        rw [Hid, ← HALL.out, HA.out, List.drop_eq_nil_of_le (by rw [HN.out]; exact Nat.le_refl _), Frm.all_nil]; simp
      obtain ⟨B, c, rfl, hcc, hR⟩ := rdl_of_row hE.each rfl hrow
      go_wp2_with fail
      go_ret3
      rw [HALL2.out]
      exact ⟨B, c, rfl, hcc, hR, hbw⟩
theorem rall_at (A : Option Addr) (bs : List UInt8) (n k c1 c2 cap : Nat) (xss : List (List UInt8)) (hn : bs.length = n) (hc : n ≤ cap) (hm : n ≤ 4294967296) (w : World) (rd : Rd w A bs) (hall : Frm.all bs = (xss, c1, c2)) (hk : xss.length = k) :
    Calls Try.prog 14 #[.slice A n cap] w fun e w' => ∃ B c, e = .returned (.tuple #[.slice B k c, .int .i64 (c1 : Int), .int .i64 (c2 : Int)]) ∧ k ≤ c ∧ RdL w' B xss ∧ Below w.heap.size w w' := by
  have := rall_in A bs n cap hn hc hm w rd
  rw [hall] at this
  subst hk
  exact this
end Go.Proofs.Ytncpbmokbnjjoaa
