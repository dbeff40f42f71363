/- The document's own answers for layer 3 (package rosetteref03). -/
import Derived.Test.YtncpbmokbnjjoaaFNext
import Derived.Test.YtncpbmokbnjjoaaFRows
import Derived.Test.YtncpbmokbnjjoaaRef
namespace Go.Proofs.Ytncpbmokbnjjoaa
open Go.RowKit
theorem Own.lower {w : World} {b b' e : Nat} {v : Value} {bs : List UInt8} (h : Own w b e v bs) (hle : b' ≤ b) : Own w b' e v bs := by
  refine ⟨h.1, ?_⟩
  rcases h.2 with h2 | ⟨g, cap, cur, hv, hbg, r⟩
  · exact .inl h2
  · exact .inr ⟨g, cap, cur, hv, Nat.le_trans hle hbg, r⟩
theorem rmake_long (A : Option Addr) (n cap : Nat) (hl : 8192 < n) (w : World) :
    Calls Try.prog 10 #[.slice A n cap] w fun e w' => e = .returned (.tuple #[.slice none 0 0, .int .i64 4]) ∧ w = w' := by
  have hd : decide ((8192 : Int) < (n : Int)) = true := by simp; omega
  go_enter Try.func10, Try.ntmps10
  go_wp2_with fail
  go_ret2
  exact ⟨rfl, rfl⟩
theorem two_cells (n : Nat) (hn : n ≤ 8192) : #[Value.int .u8 ((n : Int) % 256), Value.int .u8 ((n : Int) / 256)] = ((Frm.two n).map Bv).toArray := by
  rw [two_vals n hn]
set_option maxRecDepth 100000 in
set_option maxHeartbeats 400000 in
theorem rmake_at (A : Option Addr) (bs : List UInt8) (n m cap : Nat) (hn : bs.length = n) (hl : n ≤ 8192) (hm : n + 10 = m) (w : World) (hr : Rd w A bs) :
    Calls Try.prog 10 #[.slice A n cap] w fun e w' => ∃ B c, e = .returned (.tuple #[.slice B m c, .int .i64 0]) ∧ Below w.heap.size w w' ∧ Own w' w.heap.size 5 (.slice B m c) (Frm.frame bs) := by
  have HM := Lib.hid hm
  have HN := Lib.hid hn
  clear hn hm
  obtain ⟨i0, hi0, hz0, hz1, hz2⟩ := info_parts byte_info
  have hd : decide ((8192 : Int) < (n : Int)) = false := by simp; omega
  have hr0 := rd_const w 5 (0, 0) _ (Frm.two n) (two_cells n hl)
  have hb0 : Below w.heap.size w (w.alloc (.cells #[Value.int .u8 ((n : Int) % 256), Value.int .u8 ((n : Int) / 256)] 5)) := (Below.refl _ _).alloc (Nat.le_refl _) _
  go_enter Try.func10, Try.ntmps10
  go_wp2_with fail
  refine (rseal_own _ (Frm.two n) 2 2 rfl (by decide) _ hr0).mono ?_
  rintro e w1 ⟨B1, c1, rfl, hb1, hO1⟩
  replace hb1 := below_next hb0 (Nat.le_refl _) hb1
  clear hr0 hb0
  go_wp2_with fail
  refine (rseal_own A bs n cap HN.out (by omega) _ (hr.below hb1)).mono ?_
  rintro e w2 ⟨B2, c2, rfl, hb2, hO2⟩
  replace hO1 := (hO1.below hb2).lower (b' := w.heap.size) (by simp)
  replace hb2 := below_next hb1 (Nat.le_refl _) hb2
  have hr2 : Rd w2 B2 (Crc.shut bs) := by
    obtain ⟨B2', c2', e2, _, hr2⟩ := hO2.rd
    injection e2 with e2
    subst e2
    exact hr2
  have HS : Hid ((Crc.shut bs).length = n + 4) := by rw [Hid, Crc.shut_length, HN.out]
  clear hO2
  go_wp2_with (at_builtin; refine wpList_append_rd rfl (.tmp 18) (.tmp 20) 22 rfl w.heap.size 5 i0 Try.underlying22 hi0 hz0 hz1 hz2 (.slice B1 6 c1) (Crc.shut (Frm.two n)) (by rfl) hO1 B2 (Crc.shut bs) (n + 4) c2 (by rfl) hr2 HS.out (by rw [Frm.head_length]; omega) hb2.size ?_; intro v3 w3 hO3 hb3' _ _)
  have hb3 := hb3' w hb2
  obtain ⟨B3, c3, rfl, _, _⟩ := hO3.rd
  rw [show (Crc.shut (Frm.two n) ++ Crc.shut bs).length = m by rw [List.length_append, Frm.head_length, HS.out]; have := HM.out; omega] at hO3 ⊢
  go_ret2
  refine ⟨B3, c3, rfl, hb3, ?_⟩
  rw [show Frm.frame bs = Crc.shut (Frm.two n) ++ Crc.shut bs by unfold Frm.frame; rw [HN.out]]
  exact hO3
/-- Two bytes, as the walk reads them. -/
theorem two_read {w : World} {B : Option Addr} {ts : List UInt8} (hr : Rd w B ts) (hl : ts.length = 2) :
    ∃ (a b : UInt8) (g off : Nat), B = some ⟨g, off, none⟩ ∧ a.toNat < 256 ∧ b.toNat < 256 ∧ w.cell? ⟨g, off, none⟩ = some (.int .u8 (a.toNat : Int)) ∧ w.cell? ⟨g, off + 1, none⟩ = some (.int .u8 (b.toNat : Int)) ∧ Frm.told2 ts = a.toNat + 256 * b.toNat := by
  match ts, hl with
  | [a, b], _ =>
    rcases hr with h | ⟨g, off, rfl, _, hc⟩
    · simp at h
    · exact ⟨a, b, g, off, rfl, a.toNat_lt, b.toNat_lt, hc 0 (by simp), hc 1 (by simp), rfl⟩
set_option maxRecDepth 100000 in
set_option maxHeartbeats 400000 in
theorem rnext_head (A : Option Addr) (bs : List UInt8) (n x cap : Nat) (hn : bs.length = n) (hc : n ≤ cap) (hm : n ≤ 140737488351232) (w : World) (hr : Rd w A bs) (hx : headErr bs = x) (he : x ≠ 0) :
    Calls Try.prog 12 #[.slice A n cap] w fun e w' => e = .returned (.tuple #[.slice none 0 0, .int .i64 0, .int .i64 (x : Int)]) ∧ Below w.heap.size w w' := by
  have HN := Lib.hid hn
  clear hn
  have HE := Lib.hid hx
  clear hx
  by_cases h6 : n < 6
  · have hd : decide ((n : Int) < 6) = true := by simp; omega
    obtain rfl : x = 2 := by rw [← HE.out]; unfold headErr; rw [if_pos (by rw [HN.out]; exact h6)]
    go_enter Try.func12, Try.ntmps12
    go_wp2_with fail
    go_ret3
    exact ⟨rfl, Below.refl _ _⟩
  · have hd : decide ((n : Int) < 6) = false := by simp; omega
    have hsl := run_head A n cap 6 (by omega) hc
    by_cases hg : Crc.good (bs.take 6) = false
    · obtain rfl : x = 6 := by rw [← HE.out]; unfold headErr; rw [if_neg (by rw [HN.out]; exact h6), if_pos hg]
      go_enter Try.func12, Try.ntmps12
      go_wp2_with fail
      refine (ropen_noneW A (bs.take 6) 6 cap (by rw [List.length_take, HN.out]; omega) (by omega) (by omega) _ (hr.take 6) hg).mono ?_
      rintro e w1 ⟨rfl, hb1⟩
      go_wp2_with fail
      go_ret3
      exact ⟨rfl, hb1⟩
    · have hg' : Crc.good (bs.take 6) = true := by simpa using hg
      have hlong : 8192 < Frm.hd bs := by
        have := HE.out
        unfold headErr at this
        rw [if_neg (by rw [HN.out]; exact h6), if_neg hg] at this
        split at this
        · assumption
        · exact absurd this.symm he
      obtain rfl : x = 4 := by rw [← HE.out]; unfold headErr; rw [if_neg (by rw [HN.out]; exact h6), if_neg hg, if_pos hlong]
      have HG := Lib.hid hg'
      clear hg hg'
      have HT : Hid ((bs.take 2).length = 2) := by rw [Hid, List.length_take, HN.out]; omega
      have HL := Lib.hid hlong
      clear hlong
      go_enter Try.func12, Try.ntmps12
      go_wp2_with fail
      refine (ropen_goodW A (bs.take 6) 6 2 cap (by rw [List.length_take, HN.out]; omega) rfl (by omega) (by omega) _ (hr.take 6) HG.out).mono ?_
      rintro e w1 ⟨B1, c1, rfl, hb1, hr1⟩
      rw [List.take_take, show min 2 6 = 2 from rfl] at hr1
      obtain ⟨a, b, g1, o1, rfl, ha, hb, h0, h1, hab⟩ := two_read hr1 HT.out
      have hd2 : decide ((8192 : Int) < (a.toNat : Int) + 256 * (b.toNat : Int)) = true := by
        have := HL.out
        unfold Frm.hd at this
        rw [hab] at this
        simp; omega
      go_wp2_with fail
      go_quiet (fail)
      go_wp2_with fail
      go_ret3
      exact ⟨rfl, below_drewN hb1 _⟩
theorem head_parts {bs : List UInt8} (h : headErr bs = 0) : 6 ≤ bs.length ∧ Crc.good (bs.take 6) = true := by
  unfold headErr at h
  split at h
  · cases h
  · split at h
    · cases h
    · rename_i h1 h2
      exact ⟨by omega, by simpa using h2⟩
set_option maxRecDepth 100000 in
set_option maxHeartbeats 400000 in
theorem rnext_cut (A : Option Addr) (bs : List UInt8) (n s cap : Nat) (hn : bs.length = n) (hc : n ≤ cap) (hm : n ≤ 140737488351232) (w : World) (hr : Rd w A bs) (hh : headErr bs = 0) (hs' : Frm.hd bs = s) (hs : s ≤ 8192) (hlt : n < 10 + s) :
    Calls Try.prog 12 #[.slice A n cap] w fun e w' => e = .returned (.tuple #[.slice none 0 0, .int .i64 0, .int .i64 2]) ∧ Below w.heap.size w w' := by
  have hd3 : decide ((n : Int) < 10 + (s : Int)) = true := by simp; omega
  have HN := Lib.hid hn
  have HH := Lib.hid hh
  have HS := Lib.hid hs'
  clear hn hh hs'
  obtain ⟨h6, hg6⟩ := head_parts HH.out
  rw [HN.out] at h6
  have HG6 := Lib.hid hg6
  clear hg6
  have hd : decide ((n : Int) < 6) = false := by simp; omega
  have hsl := run_head A n cap 6 (by omega) hc
  have hd2 : decide ((8192 : Int) < (s : Int)) = false := by simp; omega
  have HT : Hid ((bs.take 2).length = 2) := by rw [Hid, List.length_take, HN.out]; omega
  go_enter Try.func12, Try.ntmps12
  go_wp2_with fail
  refine (ropen_goodW A (bs.take 6) 6 2 cap (by rw [List.length_take, HN.out]; omega) rfl (by omega) (by omega) _ (hr.take 6) HG6.out).mono ?_
  rintro e w1 ⟨B1, c1, rfl, hb1, hr1⟩
  rw [List.take_take, show min 2 6 = 2 from rfl] at hr1
  obtain ⟨a, b, g1, o1, rfl, ha, hb, h0, h1, hab⟩ := two_read hr1 HT.out
  have hv : (a.toNat : Int) + 256 * (b.toNat : Int) = (s : Int) := by
    have := HS.out
    unfold Frm.hd at this
    omega
  clear hab hsl
  go_wp2_with fail
  go_quiet (fail)
  have hb2 : Below w.heap.size w (w1.drewN nq) := below_drewN hb1 _
  generalize w1.drewN nq = w2 at *
  clear hb1 hr1 h0 h1
  go_wp2_with fail
  go_ret3
  exact ⟨rfl, hb2⟩
set_option maxRecDepth 100000 in
set_option maxHeartbeats 400000 in
theorem rnext_spoilt (A : Option Addr) (bs : List UInt8) (n s cap : Nat) (hn : bs.length = n) (hc : n ≤ cap) (hm : n ≤ 140737488351232) (w : World) (hr : Rd w A bs) (hh : headErr bs = 0) (hs' : Frm.hd bs = s) (hs : s ≤ 8192) (hlt : 10 + s ≤ n) (hg : Crc.good ((bs.drop 6).take (s + 4)) = false) :
    Calls Try.prog 12 #[.slice A n cap] w fun e w' => e = .returned (.tuple #[.slice none 0 0, .int .i64 0, .int .i64 6]) ∧ Below w.heap.size w w' := by
  have hd3 : decide ((n : Int) < 10 + (s : Int)) = false := by simp; omega
  have HG := Lib.hid hg
  clear hg
  have HN := Lib.hid hn
  have HH := Lib.hid hh
  have HS := Lib.hid hs'
  clear hn hh hs'
  obtain ⟨h6, hg6⟩ := head_parts HH.out
  rw [HN.out] at h6
  have HG6 := Lib.hid hg6
  clear hg6
  have hd : decide ((n : Int) < 6) = false := by simp; omega
  have hsl := run_head A n cap 6 (by omega) hc
  have hd2 : decide ((8192 : Int) < (s : Int)) = false := by simp; omega
  have HT : Hid ((bs.take 2).length = 2) := by rw [Hid, List.length_take, HN.out]; omega
  go_enter Try.func12, Try.ntmps12
  go_wp2_with fail
  refine (ropen_goodW A (bs.take 6) 6 2 cap (by rw [List.length_take, HN.out]; omega) rfl (by omega) (by omega) _ (hr.take 6) HG6.out).mono ?_
  rintro e w1 ⟨B1, c1, rfl, hb1, hr1⟩
  rw [List.take_take, show min 2 6 = 2 from rfl] at hr1
  obtain ⟨a, b, g1, o1, rfl, ha, hb, h0, h1, hab⟩ := two_read hr1 HT.out
  have hv : (a.toNat : Int) + 256 * (b.toNat : Int) = (s : Int) := by
    have := HS.out
    unfold Frm.hd at this
    omega
  clear hab hsl
  go_wp2_with fail
  go_quiet (fail)
  have hb2 : Below w.heap.size w (w1.drewN nq) := below_drewN hb1 _
  generalize w1.drewN nq = w2 at *
  clear hb1 hr1 h0 h1
  obtain ⟨A', hsl, hr'⟩ := run_mid (w := w2) (A := A) (n := n) (cap := cap) (j := 6) (k := 10 + s) (hr.below hb2) (by omega) (by omega) hc
  rw [show 10 + s - 6 = s + 4 by omega] at hsl hr'
  have hsl' : ∀ W, (Instr.slice 22 (.slice A n cap) (some (.int .i64 6)) (some (.int .i64 (10 + (s : Int)))) none).run Try.prog W = .ok (.slice A' (s + 4) (cap - 6)) W := fun W => by
    have := hsl W
    rw [show ((10 + s : Nat) : Int) = 10 + (s : Int) by omega] at this
    exact this
  clear hsl
  go_wp2_with fail
  refine (ropen_noneW A' ((bs.drop 6).take (s + 4)) (s + 4) (cap - 6) (by rw [List.length_take, List.length_drop, HN.out]; omega) (by omega) (by omega) _ hr' HG.out).mono ?_
  rintro e w3 ⟨rfl, hb3⟩
  replace hb3 := below_next hb2 (Nat.le_refl _) hb3
  go_wp2_with fail
  go_ret3
  exact ⟨rfl, hb3⟩
set_option maxRecDepth 100000 in
set_option maxHeartbeats 400000 in
theorem rnext_in (A : Option Addr) (bs : List UInt8) (n s cap : Nat) (hn : bs.length = n) (hc : n ≤ cap) (hm : n ≤ 140737488351232) (w : World) (hr : Rd w A bs) (hh : headErr bs = 0) (hs' : Frm.hd bs = s) (hs : s ≤ 8192) (hlt : 10 + s ≤ n) (hg : Crc.good ((bs.drop 6).take (s + 4)) = true) :
    Calls Try.prog 12 #[.slice A n cap] w fun e w' => ∃ B c, e = .returned (.tuple #[.slice B s c, .int .i64 ((10 + s : Nat) : Int), .int .i64 0]) ∧ Below w.heap.size w w' ∧ Own w' w.heap.size 5 (.slice B s c) ((bs.drop 6).take s) := by
  have hd3 : decide ((n : Int) < 10 + (s : Int)) = false := by simp; omega
  have HG := Lib.hid hg
  clear hg
  have HN := Lib.hid hn
  have HH := Lib.hid hh
  have HS := Lib.hid hs'
  clear hn hh hs'
  obtain ⟨h6, hg6⟩ := head_parts HH.out
  rw [HN.out] at h6
  have HG6 := Lib.hid hg6
  clear hg6
  have hd : decide ((n : Int) < 6) = false := by simp; omega
  have hsl := run_head A n cap 6 (by omega) hc
  have hd2 : decide ((8192 : Int) < (s : Int)) = false := by simp; omega
  have HT : Hid ((bs.take 2).length = 2) := by rw [Hid, List.length_take, HN.out]; omega
  go_enter Try.func12, Try.ntmps12
  go_wp2_with fail
  refine (ropen_goodW A (bs.take 6) 6 2 cap (by rw [List.length_take, HN.out]; omega) rfl (by omega) (by omega) _ (hr.take 6) HG6.out).mono ?_
  rintro e w1 ⟨B1, c1, rfl, hb1, hr1⟩
  rw [List.take_take, show min 2 6 = 2 from rfl] at hr1
  obtain ⟨a, b, g1, o1, rfl, ha, hb, h0, h1, hab⟩ := two_read hr1 HT.out
  have hv : (a.toNat : Int) + 256 * (b.toNat : Int) = (s : Int) := by
    have := HS.out
    unfold Frm.hd at this
    omega
  clear hab hsl
  go_wp2_with fail
  go_quiet (fail)
  have hb2 : Below w.heap.size w (w1.drewN nq) := below_drewN hb1 _
  generalize w1.drewN nq = w2 at *
  clear hb1 hr1 h0 h1
  obtain ⟨A', hsl, hr'⟩ := run_mid (w := w2) (A := A) (n := n) (cap := cap) (j := 6) (k := 10 + s) (hr.below hb2) (by omega) (by omega) hc
  rw [show 10 + s - 6 = s + 4 by omega] at hsl hr'
  have hsl' : ∀ W, (Instr.slice 22 (.slice A n cap) (some (.int .i64 6)) (some (.int .i64 (10 + (s : Int)))) none).run Try.prog W = .ok (.slice A' (s + 4) (cap - 6)) W := fun W => by
    have := hsl W
    rw [show ((10 + s : Nat) : Int) = 10 + (s : Int) by omega] at this
    exact this
  clear hsl
  go_wp2_with fail
  refine (ropen_own A' ((bs.drop 6).take (s + 4)) (s + 4) s (cap - 6) (by rw [List.length_take, List.length_drop, HN.out]; omega) rfl (by omega) (by omega) _ hr' HG.out).mono ?_
  rintro e w3 ⟨B3, c3, rfl, hb3, hO3⟩
  replace hO3 := hO3.lower hb2.size
  replace hb3 := below_next hb2 (Nat.le_refl _) hb3
  rw [List.take_take, show min s (s + 4) = s by omega] at hO3
  go_wp2_with fail
  go_ret3
  exact ⟨B3, c3, rfl, hb3, hO3⟩
theorem rnext_bad (A : Option Addr) (bs : List UInt8) (n x cap : Nat) (hn : bs.length = n) (hc : n ≤ cap) (hm : n ≤ 140737488351232) (w : World) (hr : Rd w A bs) (hx : Frm.err bs = x) (he : x ≠ 0) :
    Calls Try.prog 12 #[.slice A n cap] w fun e w' => e = .returned (.tuple #[.slice none 0 0, .int .i64 0, .int .i64 (x : Int)]) ∧ Below w.heap.size w w' := by
  subst hx
  by_cases hh : headErr bs = 0
  · obtain ⟨hs, h6, hE⟩ := err_rest hh
    by_cases hlt : n < 10 + Frm.hd bs
    · rw [if_pos (by rw [hn]; exact hlt)] at hE
      rw [hE]
      exact rnext_cut A bs n _ cap hn hc hm w hr hh rfl hs hlt
    · rw [if_neg (by rw [hn]; exact hlt)] at hE
      by_cases hg : Crc.good ((bs.drop 6).take (Frm.hd bs + 4)) = false
      · rw [if_pos hg] at hE
        rw [hE]
        exact rnext_spoilt A bs n _ cap hn hc hm w hr hh rfl hs (by omega) hg
      · rw [if_neg hg] at hE
        exact absurd hE he
  · rw [head_err hh]
    exact rnext_head A bs n _ cap hn hc hm w hr rfl hh
theorem rnext_good (A : Option Addr) (bs : List UInt8) (n s cap : Nat) (hn : bs.length = n) (hc : n ≤ cap) (hm : n ≤ 140737488351232) (w : World) (hr : Rd w A bs) (he : Frm.err bs = 0) (hs' : Frm.hd bs = s) :
    Calls Try.prog 12 #[.slice A n cap] w fun e w' => ∃ B c, e = .returned (.tuple #[.slice B s c, .int .i64 ((10 + s : Nat) : Int), .int .i64 0]) ∧ Below w.heap.size w w' ∧ Own w' w.heap.size 5 (.slice B s c) (Frm.body bs) := by
  obtain ⟨h6, _, hs, hlt, hg⟩ := Frm.err_ok he
  subst hs'
  exact rnext_in A bs n _ cap hn hc hm w hr (head_ok he) rfl hs (by omega) hg
end Go.Proofs.Ytncpbmokbnjjoaa
