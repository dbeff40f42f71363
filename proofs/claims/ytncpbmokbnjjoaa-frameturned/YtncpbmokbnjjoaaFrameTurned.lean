/-
  A frame of which one, two or three bits are turned tells an error: for all bytes and any three places, some of which may be one, the call of the law answers true, and all arguments read behind it as they read before. No condition.
-/
import Derived.Test.YtncpbmokbnjjoaaFSml
import Derived.Test.YtncpbmokbnjjoaaFFew
namespace Go.Proofs.Ytncpbmokbnjjoaa
open Go.RowKit Go.ChangeShapes Go.WideShapes Go.ChangeAt
theorem few_long (w : World) (A : Option Addr) (len cap : Nat) (hl : 8192 < len) (p q r : Int) :
    Calls Try.prog 5 #[.slice A len cap, .int .i64 p, .int .i64 q, .int .i64 r] w fun e w' => e = .returned (.bool true) ∧ Below w.heap.size w w' := by
  have hd1 : decide ((1000 : Int) < (len : Int)) = true := by simp; omega
  have hd2 : decide ((8192 : Int) < (len : Int)) = true := by simp; omega
  go_enter Try.func5, Try.ntmps5
  go_wp2_with fail
  refine (small_any _).mono ?_
  rintro e w1 ⟨rfl, hb1⟩
  go_wp2_with fail
  refine (make_long A len cap hl _).mono ?_
  rintro e w2 ⟨rfl, rfl⟩
  go_wp2_with fail
  go_ret
  exact ⟨rfl, hb1⟩
set_option maxRecDepth 100000 in
set_option maxHeartbeats 800000 in
theorem few_out (w : World) (A : Option Addr) (bs : List UInt8) (len cap : Nat) (hl : bs.length = len) (hn : len ≤ 8192) (rd : Rd w A bs) (p q r : Int)
    (h : 1000 < len ∨ p < 0 ∨ 8 * ((len : Int) + 10) ≤ p ∨ q < 0 ∨ 8 * ((len : Int) + 10) ≤ q ∨ r < 0 ∨ 8 * ((len : Int) + 10) ≤ r) :
    Calls Try.prog 5 #[.slice A len cap, .int .i64 p, .int .i64 q, .int .i64 r] w fun e w' => e = .returned (.bool true) ∧ Below w.heap.size w w' := by
  have HL := Lib.hid hl
  clear hl
  have HH := Lib.hid h
  clear h
  go_enter Try.func5, Try.ntmps5
  go_wp2_with fail
  refine (small_any _).mono ?_
  rintro e w1 ⟨rfl, hb1⟩
  go_wp2_with fail
  refine (make_at A bs len (len + 10) cap HL.out (by omega) rfl _ (rd.below hb1)).mono ?_
  rintro e w2 ⟨g, rfl, hg2, hb2, hB2⟩
  replace hb2 := below_next hb1 (Nat.le_refl _) hb2
  by_cases h0 : (1000 : Int) < (len : Int)
  · have hd1 : decide ((1000 : Int) < (len : Int)) = true := by simpa using h0
    go_wp2_with fail
    go_ret
    exact ⟨rfl, hb2⟩
  have hd0 : decide ((1000 : Int) < (len : Int)) = false := by simpa using h0
  by_cases h1 : p < 0
  · have hd1 : decide (p < 0) = true := by simpa using h1
    go_wp2_with fail
    go_ret
    exact ⟨rfl, hb2⟩
  have hd1 : decide (p < 0) = false := by simpa using h1
  by_cases h2 : 8 * ((len : Int) + 10) ≤ p
  · have hd2 : decide (8 * ((len : Int) + 10) ≤ p) = true := by simpa using h2
    go_wp2_with fail
    go_ret
    exact ⟨rfl, hb2⟩
  have hd2 : decide (8 * ((len : Int) + 10) ≤ p) = false := by simpa using h2
  by_cases h3 : q < 0
  · have hd3 : decide (q < 0) = true := by simpa using h3
    go_wp2_with fail
    go_ret
    exact ⟨rfl, hb2⟩
  have hd3 : decide (q < 0) = false := by simpa using h3
  by_cases h4 : 8 * ((len : Int) + 10) ≤ q
  · have hd4 : decide (8 * ((len : Int) + 10) ≤ q) = true := by simpa using h4
    go_wp2_with fail
    go_ret
    exact ⟨rfl, hb2⟩
  have hd4 : decide (8 * ((len : Int) + 10) ≤ q) = false := by simpa using h4
  by_cases h5 : r < 0
  · have hd5 : decide (r < 0) = true := by simpa using h5
    go_wp2_with fail
    go_ret
    exact ⟨rfl, hb2⟩
  have hd5 : decide (r < 0) = false := by simpa using h5
  have hd6 : decide (8 * ((len : Int) + 10) ≤ r) = true := by have := HH.out; simp; omega
  go_wp2_with fail
  go_ret
  exact ⟨rfl, hb2⟩
set_option maxRecDepth 100000 in
set_option maxHeartbeats 1000000 in
theorem few_in (w : World) (A : Option Addr) (bs : List UInt8) (len cap : Nat) (hl : bs.length = len) (hn : len ≤ 1000) (rd : Rd w A bs) (p q r : Nat)
    (hp : p < 8 * (len + 10)) (hq : q < 8 * (len + 10)) (hr : r < 8 * (len + 10)) :
    Calls Try.prog 5 #[.slice A len cap, .int .i64 (p : Int), .int .i64 (q : Int), .int .i64 (r : Int)] w fun e w' => e = .returned (.bool true) ∧ Below w.heap.size w w' := by
  have HL := Lib.hid hl
  clear hl
  have hd0 : decide ((1000 : Int) < (len : Int)) = false := by simp; omega
  have hd1 : decide ((p : Int) < 0) = false := by simp
  have hd2 : decide (8 * ((len : Int) + 10) ≤ (p : Int)) = false := by simp; omega
  have hd3 : decide ((q : Int) < 0) = false := by simp
  have hd4 : decide (8 * ((len : Int) + 10) ≤ (q : Int)) = false := by simp; omega
  have hd5 : decide ((r : Int) < 0) = false := by simp
  have hd6 : decide (8 * ((len : Int) + 10) ≤ (r : Int)) = false := by simp; omega
  have HS : Hid ((Frm.frame bs).length = len + 10) := by rw [Hid, Frm.frame_length, HL.out]
  have HBAD := Lib.hid (Frm.err_few bs (by rw [HL.out]; exact hn) p q r (by rw [HL.out]; exact hp) (by rw [HL.out]; exact hq) (by rw [HL.out]; exact hr))
  go_enter Try.func5, Try.ntmps5
  go_wp2_with fail
  refine (small_any _).mono ?_
  rintro e w1 ⟨rfl, hb1⟩
  go_wp2_with fail
  refine (make_at A bs len (len + 10) cap HL.out (by omega) rfl _ (rd.below hb1)).mono ?_
  rintro e w2 ⟨g, rfl, hg2, hb2, hB2⟩
  replace hb2 := below_next hb1 (Nat.le_refl _) hb2
  have hg : w.heap.size ≤ g := Nat.le_trans hb1.size hg2
  obtain ⟨x1, hx1⟩ : ∃ x, (Frm.frame bs)[p / 8]? = some x := ⟨_, List.getElem?_eq_getElem (by rw [HS.out]; omega)⟩
  have hc1 := blk_byte hB2 hx1
  have HX1 := Lib.hid hx1
  clear hx1
  by_cases hqp : q = p
  · subst hqp
    by_cases hrp : r = q
    · subst hrp
      have HE : Hid (Crc.turn3 (Frm.frame bs) r r r = Crc.turn (Frm.frame bs) r) := by simp [Hid, Crc.turn3, Crc.turn2]
      go_wp2_with (refine wpList_store_turn rfl 5 (.tmp 92) (.tmp 91) rfl g r x1 (by rfl) (by rfl) 5 (Frm.frame bs) hB2 HX1.out (by kernel_rfl) ?_; intro w3 hB3 hb3)
      have hS := hb3 w.heap.size w hb2 hg
      rw [← HE.out] at hB3
      refine (next_bad _ (Crc.turn3 (Frm.frame bs) r r r) _ 6 _ (by rw [Crc.turn3_length]; exact HS.out) (Nat.le_refl _) (by omega) _ hB3.rd HBAD.out (by decide)).mono ?_
      rintro e w6 ⟨rfl, hb6⟩
      replace hb6 := below_next hS (Nat.le_refl _) hb6
      go_wp2_with fail
      go_ret
      exact ⟨rfl, hb6⟩
    · have hne2 : ((r : Int) != (q : Int)) = true := by rw [bne_iff_ne]; omega
      obtain ⟨x3, hx3⟩ := turn_at (Frm.frame bs) q (r / 8) (by rw [HS.out]; omega)
      have HX3 := Lib.hid hx3
      have HE : Hid (Crc.turn3 (Frm.frame bs) q q r = Crc.turn (Crc.turn (Frm.frame bs) q) r) := by simp [Hid, Crc.turn3, Crc.turn2, hrp]
      clear hx3 hrp
      go_wp2_with (first
        | (refine wpList_store_turn rfl 5 (.tmp 92) (.tmp 91) rfl g q x1 (by rfl) (by rfl) 5 (Frm.frame bs) hB2 HX1.out (by kernel_rfl) ?_; intro w3 hB3 hb3; have hc3 := blk_byte hB3 HX3.out)
        | (refine wpList_store_turn rfl 5 (.tmp 131) (.tmp 130) rfl g r x3 (by rfl) (by rfl) 5 (Crc.turn (Frm.frame bs) q) hB3 HX3.out (by kernel_rfl) ?_; intro w5 hB5 hb5))
      have hS := hb5 w.heap.size w (hb3 w.heap.size w hb2 hg) hg
      rw [← HE.out] at hB5
      refine (next_bad _ (Crc.turn3 (Frm.frame bs) q q r) _ 6 _ (by rw [Crc.turn3_length]; exact HS.out) (Nat.le_refl _) (by omega) _ hB5.rd HBAD.out (by decide)).mono ?_
      rintro e w6 ⟨rfl, hb6⟩
      replace hb6 := below_next hS (Nat.le_refl _) hb6
      go_wp2_with fail
      go_ret
      exact ⟨rfl, hb6⟩
  · have hne : ((q : Int) != (p : Int)) = true := by rw [bne_iff_ne]; omega
    obtain ⟨x2, hx2⟩ := turn_at (Frm.frame bs) p (q / 8) (by rw [HS.out]; omega)
    have HX2 := Lib.hid hx2
    clear hx2
    have HE2 : Hid (Crc.turn2 (Frm.frame bs) p q = Crc.turn (Crc.turn (Frm.frame bs) p) q) := by unfold Crc.turn2; rw [Hid, if_pos hqp]
    by_cases hrp : r = p
    · subst hrp
      have HE : Hid (Crc.turn3 (Frm.frame bs) r q r = Crc.turn (Crc.turn (Frm.frame bs) r) q) := by rw [Hid, ← HE2.out]; simp [Crc.turn3]
      clear hqp
      go_wp2_with (first
        | (refine wpList_store_turn rfl 5 (.tmp 92) (.tmp 91) rfl g r x1 (by rfl) (by rfl) 5 (Frm.frame bs) hB2 HX1.out (by kernel_rfl) ?_; intro w3 hB3 hb3; have hc2 := blk_byte hB3 HX2.out)
        | (refine wpList_store_turn rfl 5 (.tmp 109) (.tmp 108) rfl g q x2 (by rfl) (by rfl) 5 (Crc.turn (Frm.frame bs) r) hB3 HX2.out (by kernel_rfl) ?_; intro w4 hB4 hb4))
      have hS := hb4 w.heap.size w (hb3 w.heap.size w hb2 hg) hg
      rw [← HE.out] at hB4
      refine (next_bad _ (Crc.turn3 (Frm.frame bs) r q r) _ 6 _ (by rw [Crc.turn3_length]; exact HS.out) (Nat.le_refl _) (by omega) _ hB4.rd HBAD.out (by decide)).mono ?_
      rintro e w6 ⟨rfl, hb6⟩
      replace hb6 := below_next hS (Nat.le_refl _) hb6
      go_wp2_with fail
      go_ret
      exact ⟨rfl, hb6⟩
    · have hne2 : ((r : Int) != (p : Int)) = true := by rw [bne_iff_ne]; omega
      by_cases hrq : r = q
      · subst hrq
        have HE : Hid (Crc.turn3 (Frm.frame bs) p r r = Crc.turn (Crc.turn (Frm.frame bs) p) r) := by rw [Hid, ← HE2.out]; simp [Crc.turn3]
        clear hqp hrp
        go_wp2_with (first
          | (refine wpList_store_turn rfl 5 (.tmp 92) (.tmp 91) rfl g p x1 (by rfl) (by rfl) 5 (Frm.frame bs) hB2 HX1.out (by kernel_rfl) ?_; intro w3 hB3 hb3; have hc2 := blk_byte hB3 HX2.out)
          | (refine wpList_store_turn rfl 5 (.tmp 109) (.tmp 108) rfl g r x2 (by rfl) (by rfl) 5 (Crc.turn (Frm.frame bs) p) hB3 HX2.out (by kernel_rfl) ?_; intro w4 hB4 hb4))
        have hS := hb4 w.heap.size w (hb3 w.heap.size w hb2 hg) hg
        rw [← HE.out] at hB4
        refine (next_bad _ (Crc.turn3 (Frm.frame bs) p r r) _ 6 _ (by rw [Crc.turn3_length]; exact HS.out) (Nat.le_refl _) (by omega) _ hB4.rd HBAD.out (by decide)).mono ?_
        rintro e w6 ⟨rfl, hb6⟩
        replace hb6 := below_next hS (Nat.le_refl _) hb6
        go_wp2_with fail
        go_ret
        exact ⟨rfl, hb6⟩
      · have hne3 : ((r : Int) != (q : Int)) = true := by rw [bne_iff_ne]; omega
        obtain ⟨x3, hx3⟩ := turn_at (Crc.turn (Frm.frame bs) p) q (r / 8) (by rw [Crc.turn_length, HS.out]; omega)
        have HX3 := Lib.hid hx3
        have HE : Hid (Crc.turn3 (Frm.frame bs) p q r = Crc.turn (Crc.turn (Crc.turn (Frm.frame bs) p) q) r) := by unfold Crc.turn3; rw [Hid, if_pos ⟨hrp, hrq⟩, HE2.out]
        clear hx3 hrp hrq hqp
        go_wp2_with (first
          | (refine wpList_store_turn rfl 5 (.tmp 92) (.tmp 91) rfl g p x1 (by rfl) (by rfl) 5 (Frm.frame bs) hB2 HX1.out (by kernel_rfl) ?_; intro w3 hB3 hb3; have hc2 := blk_byte hB3 HX2.out)
          | (refine wpList_store_turn rfl 5 (.tmp 109) (.tmp 108) rfl g q x2 (by rfl) (by rfl) 5 (Crc.turn (Frm.frame bs) p) hB3 HX2.out (by kernel_rfl) ?_; intro w4 hB4 hb4; have hc3 := blk_byte hB4 HX3.out)
          | (refine wpList_store_turn rfl 5 (.tmp 131) (.tmp 130) rfl g r x3 (by rfl) (by rfl) 5 (Crc.turn (Crc.turn (Frm.frame bs) p) q) hB4 HX3.out (by kernel_rfl) ?_; intro w5 hB5 hb5))
        have hS := hb5 w.heap.size w (hb4 w.heap.size w (hb3 w.heap.size w hb2 hg) hg) hg
        rw [← HE.out] at hB5
        refine (next_bad _ (Crc.turn3 (Frm.frame bs) p q r) _ 6 _ (by rw [Crc.turn3_length]; exact HS.out) (Nat.le_refl _) (by omega) _ hB5.rd HBAD.out (by decide)).mono ?_
        rintro e w6 ⟨rfl, hb6⟩
        replace hb6 := below_next hS (Nat.le_refl _) hb6
        go_wp2_with fail
        go_ret
        exact ⟨rfl, hb6⟩
theorem walk_FrameTurned (w : World) (A : Option Addr) (bs : List UInt8) (len cap : Nat) (hl : bs.length = len) (_hc : len ≤ cap) (_hm : cap ≤ 140737488351232) (rd : Rd w A bs)
    (p : Int) (_ : (Lit.int .i64 p).wf = true) (q : Int) (_ : (Lit.int .i64 q).wf = true) (r : Int) (_ : (Lit.int .i64 r).wf = true) :
    Calls Try.prog 5 #[.slice A len cap, .int .i64 p, .int .i64 q, .int .i64 r] w fun e w' => e = .returned (.bool true) ∧ Below w.heap.size w w' := by
  by_cases h8 : 8192 < len
  · exact few_long w A len cap h8 p q r
  by_cases h : 1000 < len ∨ p < 0 ∨ 8 * ((len : Int) + 10) ≤ p ∨ q < 0 ∨ 8 * ((len : Int) + 10) ≤ q ∨ r < 0 ∨ 8 * ((len : Int) + 10) ≤ r
  · exact few_out w A bs len cap hl (by omega) rd p q r h
  · obtain ⟨a, rfl⟩ := Int.eq_ofNat_of_zero_le (show 0 ≤ p by omega)
    obtain ⟨b, rfl⟩ := Int.eq_ofNat_of_zero_le (show 0 ≤ q by omega)
    obtain ⟨c, rfl⟩ := Int.eq_ofNat_of_zero_le (show 0 ≤ r by omega)
    exact few_in w A bs len cap hl (by omega) rd a b c (by omega) (by omega) (by omega)

/-! ### The row's step. -/
namespace frameTurned
theorem own : ownKnob Try.prog.godebug = none := by kernel_rfl
theorem laidOut : laidOutB Try.prog = true := by kernel_rfl
set_option linter.unusedVariables false in
set_option maxRecDepth 100000 in
theorem lifted (os : Os) (started : os.Started) (H : Type) (enc : TypeId × Value → H) :
    ReturnsInHanded {} Try.checked os 5 .any (Rows.frameTurnedSpec.pre6 enc Try.prog Try.f5 Rows.frameTurnedRow.domain false) (Rows.frameTurnedSpec.post enc Try.prog Try.f5 false true false false) := by
  refine returnsInHanded_of_change_sized (C := Try.checked) own started (by kernel_rfl) Try.func5
    (ChangeSpec.witness6 (enc := enc) (C := Try.checked) false ⟨#[], #[.slice none 0 0, .int .i64 0, .int .i64 0, .int .i64 0], []⟩ 8 (by kernel_rfl) (by kernel_rfl) (by kernel_rfl) (by kernel_rfl)) ?_
  intro W base args ds gs before hval0 hW hcnd hsz0 _
  have hval : ∀ (j : Nat) t v, Try.f5.params[j]? = some t → args[j]? = some v → Value.okWide Try.prog W .any base t v := hval0
  have hsz : (DataW.weightsEach Try.prog (Try.f5.params.toList ++ Rows.frameTurnedSpec.plain.varTypes Try.prog) (ds ++ gs)).all (· ≤ reachBytes) = true := hsz0
  have hW' := hW
  obtain ⟨p, q, hA0, hV, rfl, hfz, hnd⟩ := hW
  have hA : DataW.TrodAll enc Try.prog W 0 (fun _ => true) true Try.f5.params.toList args.toList ds p := hA0
  rw [Try.params5] at hA hval hsz
  obtain ⟨v0, vs0, d0, ds0, p0, q0, hargs, rfl, rfl, h0, r0⟩ := trodAll_cons hA
  obtain ⟨v1, vs1, d1, ds1, p1, q1, rfl, rfl, rfl, h1, r1⟩ := trodAll_cons r0
  obtain ⟨v2, vs2, d2, ds2, p2, q2, rfl, rfl, rfl, h2, r2⟩ := trodAll_cons r1
  obtain ⟨v3, vs3, d3, ds3, p3, q3, rfl, rfl, rfl, h3, r3⟩ := trodAll_cons r2
  obtain ⟨rfl, rfl, rfl⟩ := trodAll_nil r3
  obtain rfl : args = #[v0, v1, v2, v3] := by cases args; simp_all
  obtain ⟨rfl, rfl⟩ := trodVars_none hV
  obtain ⟨a0, len0, cap0, rfl⟩ := okWide_slice Try.underlying22 (hval 0 22 v0 rfl rfl)
  have k0 := h0
  have lt0 : ∀ x ∈ p0, x.block < W.heap.size := by obtain ⟨m, hm⟩ := k0; exact DataW.trod_lt m _ _ _ hm
  obtain ⟨bs0, hl0, hc0, hm0, rd0⟩ : ∃ bs : List UInt8, bs.length = len0 ∧ len0 ≤ cap0 ∧ cap0 ≤ 140737488351232 ∧ Rd W a0 bs := by
    obtain ⟨fuel, hf⟩ := h0
    rcases open_ints Try.underlying22 Try.underlying5 (by kernel_rfl) hf with ⟨hcs, _⟩ | ⟨x, l, c, zs, hcs, _, hl, hm, hz, hx, hcell, hwz⟩
    · simp [Value.cells] at hcs
      obtain ⟨rfl, rfl, rfl⟩ := hcs
      exact ⟨[], rfl, by omega, by omega, .inl rfl⟩
    · simp [Value.cells] at hcs
      obtain ⟨rfl, rfl, rfl⟩ := hcs
      have hz' : zs.length = cap0 := by simpa using hz
      have hd : d0 = .slice (lits .u8 (zs.take len0)) (lits .u8 (zs.drop len0)) := congrArg Prod.fst hx
      have hb := sized_slice hsz (j := 0) (t := 22) (elems := lits .u8 (zs.take len0)) (spare := lits .u8 (zs.drop len0)) rfl (by rw [hd]; rfl) Try.underlying22
      have hb' : cap0 ≤ 140737488351232 := by
        rw [show Try.prog.bytesOf 5 = 1 from by kernel_rfl] at hb
        simp [lits, reachBytes] at hb; omega
      obtain ⟨bs, e1, e2⟩ := rd_of_ints hl hz' hcell hwz
      exact ⟨bs, e1, hl, hb', e2⟩
  obtain ⟨a1, rfl, rfl, rfl, w1⟩ := open_int Try.underlying3 (hval 1 3 v1 rfl rfl) h1
  obtain ⟨a2, rfl, rfl, rfl, w2⟩ := open_int Try.underlying3 (hval 2 3 v2 rfl rfl) h2
  obtain ⟨a3, rfl, rfl, rfl, w3⟩ := open_int Try.underlying3 (hval 3 3 v3 rfl rfl) h3
  clear hA0 hval0
  refine (walk_FrameTurned W a0 bs0 len0 cap0 hl0 hc0 hm0 rd0 a1 w1 a2 w2 a3 w3).mono fun e W' ⟨he, bel⟩ => ?_
  subst he
  exact ⟨_, rfl, _, _, _, [], _, [], hW', trodAll_mk1 (shut_bool Try.underlying4 _), (trodAll_cons_mk (Below.trod laidOut (by kernel_rfl) (of_decide_eq_true (by kernel_rfl)) k0 bel lt0) (trodAll_cons_mk (shut_int Try.underlying3 w1) (trodAll_cons_mk (shut_int Try.underlying3 w2) (trodAll_cons_mk (shut_int Try.underlying3 w3) trodAll_mk0)))), rfl, bel.frame _, fun h => by cases h⟩
theorem over : Rows.frameTurnedRow.holds Try.pinned (OpenSpec.ofChange Rows.frameTurnedSpec) :=
  OpenClaim.holds_of_wide 5 Try.f5 rfl rfl rfl rfl rfl rfl rfl ⟨rfl, rfl, rfl, rfl, rfl⟩ rfl rfl rfl rfl rfl (by kernel_rfl) Try.func5 (by kernel_rfl)
    (of_decide_eq_true (by kernel_rfl)) (by unfold Func.isWrapper; first | (rw [if_pos (by decide +kernel)]; kernel_rfl) | (rw [if_neg (by decide +kernel)]; exact ⟨rfl, rfl⟩))
    (fun os started H enc _ => lifted os started H enc)
end frameTurned
/-- THE STATEMENT. -/
theorem frameTurned_holds : Rows.FrameTurnedSaid := frameTurned.over
#print axioms frameTurned_holds
end Go.Proofs.Ytncpbmokbnjjoaa
