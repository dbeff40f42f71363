/- Package frame: head, Next. -/
import Derived.Test.YtncpbmokbnjjoaaFLay
namespace Go.Proofs.Ytncpbmokbnjjoaa
open Go.RowKit
/-- What head tells. -/
def headErr (b : List UInt8) : Nat := if b.length < 6 then 2 else if Crc.good (b.take 6) = false then 6 else if 8192 < Frm.hd b then 4 else 0
set_option maxRecDepth 100000 in
set_option maxHeartbeats 400000 in
theorem head_bad (A : Option Addr) (bs : List UInt8) (n cap : Nat) (hn : bs.length = n) (hc : n ≤ cap) (hm : n ≤ 140737488351232) (w : World) (hr : Rd w A bs) (he : headErr bs ≠ 0) :
    Calls Try.prog 22 #[.slice A n cap] w fun e w' => e = .returned (.tuple #[.int .i64 0, .int .i64 (headErr bs : Int)]) ∧ Below w.heap.size w w' := by
  have HN := Lib.hid hn
  clear hn
  have HE := Lib.hid he
  clear he
  by_cases h6 : n < 6
  · have hd : decide ((n : Int) < 6) = true := by simp; omega
    have e : headErr bs = 2 := by unfold headErr; rw [if_pos (by rw [HN.out]; exact h6)]
    rw [e]
    go_enter Try.func22, Try.ntmps22
    go_wp2_with fail
    go_ret2
    exact ⟨rfl, Below.refl _ _⟩
  · have hd : decide ((n : Int) < 6) = false := by simp; omega
    have hsl := run_head A n cap 6 (by omega) hc
    by_cases hg : Crc.good (bs.take 6) = false
    · have e : headErr bs = 6 := by unfold headErr; rw [if_neg (by rw [HN.out]; exact h6), if_pos hg]
      rw [e]
      go_enter Try.func22, Try.ntmps22
      go_wp2_with fail
      refine (open_noneW A (bs.take 6) 6 cap (by rw [List.length_take, HN.out]; omega) (by omega) (by omega) _ (hr.take 6) hg).mono ?_
      rintro e w1 ⟨rfl, hb1⟩
      go_wp2_with fail
      go_ret2
      exact ⟨rfl, hb1⟩
    · have hg' : Crc.good (bs.take 6) = true := by simpa using hg
      have hlong : 8192 < Frm.hd bs := by
        have := HE.out
        unfold headErr at this
        rw [if_neg (by rw [HN.out]; exact h6), if_neg hg] at this
        split at this
        · assumption
        · exact absurd rfl this
      have e : headErr bs = 4 := by unfold headErr; rw [if_neg (by rw [HN.out]; exact h6), if_neg hg, if_pos hlong]
      rw [e]
      have hd2 : decide ((8192 : Int) < (Frm.told2 (bs.take 2) : Int)) = true := by
        have : 8192 < Frm.told2 (bs.take 2) := hlong
        simp; omega
      go_enter Try.func22, Try.ntmps22
      go_wp2_with fail
      refine (open_goodW A (bs.take 6) 6 2 cap (by rw [List.length_take, HN.out]; omega) rfl (by omega) (by omega) _ (hr.take 6) hg').mono ?_
      rintro e w1 ⟨g1, rfl, hg1, hb1, hB1⟩
      rw [List.take_take, show min 2 6 = 2 from rfl] at hB1
      go_wp2_with fail
      refine (told2_at _ (bs.take 2) _ (by rw [List.length_take, HN.out]; omega) _ hB1.rd).mono ?_
      rintro e w2 ⟨rfl, k, rfl⟩
      go_wp2_with fail
      go_ret2
      exact ⟨rfl, below_drewN hb1 _⟩
set_option maxRecDepth 100000 in
set_option maxHeartbeats 400000 in
theorem head_good (A : Option Addr) (bs : List UInt8) (n cap : Nat) (hn : bs.length = n) (hc : n ≤ cap) (hm : n ≤ 140737488351232) (w : World) (hr : Rd w A bs) (he : headErr bs = 0) :
    Calls Try.prog 22 #[.slice A n cap] w fun e w' => e = .returned (.tuple #[.int .i64 (Frm.hd bs : Int), .int .i64 0]) ∧ Below w.heap.size w w' := by
  obtain ⟨h6, hg, hs⟩ : 6 ≤ bs.length ∧ Crc.good (bs.take 6) = true ∧ Frm.hd bs ≤ 8192 := by
    unfold headErr at he
    split at he
    · cases he
    · split at he
      · cases he
      · split at he
        · cases he
        · rename_i h1 h2 h3
          exact ⟨by omega, by simpa using h2, by omega⟩
  clear he
  have HN := Lib.hid hn
  rw [hn] at h6
  clear hn
  have hd : decide ((n : Int) < 6) = false := by simp; omega
  have hsl := run_head A n cap 6 (by omega) hc
  have hd2 : decide ((8192 : Int) < (Frm.told2 (bs.take 2) : Int)) = false := by
    have : Frm.told2 (bs.take 2) ≤ 8192 := hs
    simp; omega
  go_enter Try.func22, Try.ntmps22
  go_wp2_with fail
  refine (open_goodW A (bs.take 6) 6 2 cap (by rw [List.length_take, HN.out]; omega) rfl (by omega) (by omega) _ (hr.take 6) hg).mono ?_
  rintro e w1 ⟨g1, rfl, hg1, hb1, hB1⟩
  rw [List.take_take, show min 2 6 = 2 from rfl] at hB1
  go_wp2_with fail
  refine (told2_at _ (bs.take 2) _ (by rw [List.length_take, HN.out]; omega) _ hB1.rd).mono ?_
  rintro e w2 ⟨rfl, k, rfl⟩
  go_wp2_with fail
  go_ret2
  exact ⟨rfl, below_drewN hb1 _⟩
theorem head_err {bs : List UInt8} (h : headErr bs ≠ 0) : Frm.err bs = headErr bs := by
  unfold headErr at *
  unfold Frm.err
  split
  · rfl
  · split
    · rfl
    · split
      · rfl
      · simp_all
theorem err_rest {bs : List UInt8} (h : headErr bs = 0) : Frm.hd bs ≤ 8192 ∧ 6 ≤ bs.length ∧ Frm.err bs = if bs.length < 10 + Frm.hd bs then 2 else if Crc.good ((bs.drop 6).take (Frm.hd bs + 4)) = false then 6 else 0 := by
  unfold headErr at h
  unfold Frm.err
  split at h
  · cases h
  · split at h
    · cases h
    · split at h
      · cases h
      · rename_i h1 h2 h3
        exact ⟨by omega, by omega, by rw [if_neg h1, if_neg h2, if_neg h3]⟩
set_option maxRecDepth 100000 in
set_option maxHeartbeats 400000 in
theorem next_head (A : Option Addr) (bs : List UInt8) (n cap : Nat) (hn : bs.length = n) (hc : n ≤ cap) (hm : n ≤ 140737488351232) (w : World) (hr : Rd w A bs) (hh : headErr bs ≠ 0) :
    Calls Try.prog 11 #[.slice A n cap] w fun e w' => e = .returned (.tuple #[.slice none 0 0, .int .i64 0, .int .i64 (headErr bs : Int)]) ∧ Below w.heap.size w w' := by
  have HN := Lib.hid hn
  clear hn
  have hne : (((headErr bs : Nat) : Int) != 0) = true := by simpa using hh
  go_enter Try.func11, Try.ntmps11
  go_wp2_with fail
  refine (head_bad A bs n cap HN.out hc hm _ hr hh).mono ?_
  rintro e w1 ⟨rfl, hb1⟩
  go_wp2_with fail
  go_ret3
  exact ⟨rfl, hb1⟩
set_option maxRecDepth 100000 in
set_option maxHeartbeats 400000 in
theorem next_cut (A : Option Addr) (bs : List UInt8) (n s cap : Nat) (hn : bs.length = n) (hc : n ≤ cap) (hm : n ≤ 140737488351232) (w : World) (hr : Rd w A bs) (hh : headErr bs = 0) (hs' : Frm.hd bs = s) (hs : s ≤ 8192) (hlt : n < 10 + s) :
    Calls Try.prog 11 #[.slice A n cap] w fun e w' => e = .returned (.tuple #[.slice none 0 0, .int .i64 0, .int .i64 2]) ∧ Below w.heap.size w w' := by
  have HN := Lib.hid hn
  have HH := Lib.hid hh
  have HS := Lib.hid hs'
  clear hn hh hs'
  have hd : decide ((n : Int) < 10 + (s : Int)) = true := by simp; omega
  go_enter Try.func11, Try.ntmps11
  go_wp2_with fail
  refine (head_good A bs n cap HN.out hc hm _ hr HH.out).mono ?_
  rintro e w1 ⟨rfl, hb1⟩
  rw [HS.out]
  go_wp2_with fail
  refine (size_at s (10 + s) (by omega) rfl _).mono ?_
  rintro e w2 ⟨rfl, rfl⟩
  go_wp2_with fail
  go_ret3
  exact ⟨rfl, hb1⟩
set_option maxRecDepth 100000 in
set_option maxHeartbeats 400000 in
theorem next_spoilt (A : Option Addr) (bs : List UInt8) (n s cap : Nat) (hn : bs.length = n) (hc : n ≤ cap) (hm : n ≤ 140737488351232) (w : World) (hr : Rd w A bs) (hh : headErr bs = 0) (hs' : Frm.hd bs = s) (hs : s ≤ 8192) (hlt : 10 + s ≤ n)
    (hg : Crc.good ((bs.drop 6).take (s + 4)) = false) :
    Calls Try.prog 11 #[.slice A n cap] w fun e w' => e = .returned (.tuple #[.slice none 0 0, .int .i64 0, .int .i64 6]) ∧ Below w.heap.size w w' := by
  have HN := Lib.hid hn
  have HH := Lib.hid hh
  have HS := Lib.hid hs'
  have HG := Lib.hid hg
  clear hn hh hs' hg
  have hd : decide ((n : Int) < 10 + (s : Int)) = false := by simp; omega
  go_enter Try.func11, Try.ntmps11
  go_wp2_with fail
  refine (head_good A bs n cap HN.out hc hm _ hr HH.out).mono ?_
  rintro e w1 ⟨rfl, hb1⟩
  rw [HS.out]
  go_wp2_with fail
  refine (size_at s (10 + s) (by omega) rfl _).mono ?_
  rintro e w2 ⟨rfl, rfl⟩
  obtain ⟨A', hsl, hr'⟩ := run_mid (w := w1) (A := A) (n := n) (cap := cap) (j := 6) (k := 10 + s) (hr.below hb1) (by omega) (by omega) hc
  rw [show 10 + s - 6 = s + 4 by omega] at hsl hr'
  have hsl' : ∀ W, (Instr.slice 22 (.slice A n cap) (some (.int .i64 6)) (some (.int .i64 (10 + (s : Int)))) none).run Try.prog W = .ok (.slice A' (s + 4) (cap - 6)) W := fun W => by
    have := hsl W
    rw [show ((10 + s : Nat) : Int) = 10 + (s : Int) by omega] at this
    exact this
  clear hsl
  go_wp2_with fail
  refine (open_noneW A' ((bs.drop 6).take (s + 4)) (s + 4) (cap - 6) (by rw [List.length_take, List.length_drop, HN.out]; omega) (by omega) (by omega) _ hr' HG.out).mono ?_
  rintro e w3 ⟨rfl, hb3⟩
  replace hb3 := below_next hb1 (Nat.le_refl _) hb3
  go_wp2_with fail
  go_ret3
  exact ⟨rfl, hb3⟩
/-- Whatever Next finds no frame at. -/
theorem next_bad (A : Option Addr) (bs : List UInt8) (n x cap : Nat) (hn : bs.length = n) (hc : n ≤ cap) (hm : n ≤ 140737488351232) (w : World) (hr : Rd w A bs) (hx : Frm.err bs = x) (he : x ≠ 0) :
    Calls Try.prog 11 #[.slice A n cap] w fun e w' => e = .returned (.tuple #[.slice none 0 0, .int .i64 0, .int .i64 (x : Int)]) ∧ Below w.heap.size w w' := by
  subst hx
  by_cases hh : headErr bs = 0
  · obtain ⟨hs, h6, hE⟩ := err_rest hh
    by_cases hlt : n < 10 + Frm.hd bs
    · rw [if_pos (by rw [hn]; exact hlt)] at hE
      rw [hE]
      exact next_cut A bs n _ cap hn hc hm w hr hh rfl hs hlt
    · rw [if_neg (by rw [hn]; exact hlt)] at hE
      by_cases hg : Crc.good ((bs.drop 6).take (Frm.hd bs + 4)) = false
      · rw [if_pos hg] at hE
        rw [hE]
        exact next_spoilt A bs n _ cap hn hc hm w hr hh rfl hs (by omega) hg
      · rw [if_neg hg] at hE
        exact absurd hE he
  · rw [head_err hh]
    exact next_head A bs n cap hn hc hm w hr hh
theorem head_ok {bs : List UInt8} (he : Frm.err bs = 0) : headErr bs = 0 := by
  by_cases h : headErr bs = 0
  · exact h
  · exact absurd (by rw [← head_err h]; exact he) h
set_option maxRecDepth 100000 in
set_option maxHeartbeats 400000 in
theorem next_good (A : Option Addr) (bs : List UInt8) (n s cap : Nat) (hn : bs.length = n) (hc : n ≤ cap) (hm : n ≤ 140737488351232) (w : World) (hr : Rd w A bs) (he : Frm.err bs = 0) (hs' : Frm.hd bs = s) :
    Calls Try.prog 11 #[.slice A n cap] w fun e w' => ∃ g, e = .returned (.tuple #[.slice (some ⟨g, 0, none⟩) s s, .int .i64 ((10 + s : Nat) : Int), .int .i64 0]) ∧ w.heap.size ≤ g ∧ Below w.heap.size w w' ∧ Blk w' g 5 ((Frm.body bs).map Bv).toArray := by
  obtain ⟨h6, _, hs, hlt, hg⟩ := Frm.err_ok he
  have HH := Lib.hid (head_ok he)
  rw [hs'] at hs hlt hg
  rw [hn] at hlt
  have HN := Lib.hid hn
  have HS := Lib.hid hs'
  have HG := Lib.hid hg
  clear hn hs' he h6 hg
  have hd : decide ((n : Int) < 10 + (s : Int)) = false := by simp; omega
  go_enter Try.func11, Try.ntmps11
  go_wp2_with fail
  refine (head_good A bs n cap HN.out hc hm _ hr HH.out).mono ?_
  rintro e w1 ⟨rfl, hb1⟩
  rw [HS.out]
  go_wp2_with fail
  refine (size_at s (10 + s) (by omega) rfl _).mono ?_
  rintro e w2 ⟨rfl, rfl⟩
  obtain ⟨A', hsl, hr'⟩ := run_mid (w := w1) (A := A) (n := n) (cap := cap) (j := 6) (k := 10 + s) (hr.below hb1) (by omega) (by omega) hc
  rw [show 10 + s - 6 = s + 4 by omega] at hsl hr'
  have hsl' : ∀ W, (Instr.slice 22 (.slice A n cap) (some (.int .i64 6)) (some (.int .i64 (10 + (s : Int)))) none).run Try.prog W = .ok (.slice A' (s + 4) (cap - 6)) W := fun W => by
    have := hsl W
    rw [show ((10 + s : Nat) : Int) = 10 + (s : Int) by omega] at this
    exact this
  clear hsl
  go_wp2_with fail
  refine (open_goodW A' ((bs.drop 6).take (s + 4)) (s + 4) s (cap - 6) (by rw [List.length_take, List.length_drop, HN.out]; omega) rfl (by omega) (by omega) _ hr' HG.out).mono ?_
  rintro e w3 ⟨g3, rfl, hg3, hb3, hB3⟩
  have hg3' := Nat.le_trans hb1.size hg3
  replace hb3 := below_next hb1 (Nat.le_refl _) hb3
  rw [List.take_take, show min s (s + 4) = s by omega] at hB3
  go_wp2_with fail
  go_ret3
  refine ⟨g3, rfl, hg3', hb3, ?_⟩
  rw [show Frm.body bs = (bs.drop 6).take s by unfold Frm.body; rw [HS.out]]
  exact hB3
end Go.Proofs.Ytncpbmokbnjjoaa
