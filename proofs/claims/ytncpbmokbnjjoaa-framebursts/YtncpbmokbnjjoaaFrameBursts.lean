/-
  A frame of which some bits are turned, all within thirty-two that stand one behind the other, tells an error: for all bytes, every place and every mask the call of the law answers true, and all arguments read behind it as they read before. No condition.
-/
import Derived.Test.YtncpbmokbnjjoaaFSml
import Derived.Test.YtncpbmokbnjjoaaFBurst
namespace Go.Proofs.Ytncpbmokbnjjoaa
open Go.RowKit Go.ChangeShapes Go.WideShapes Go.ChangeAt
theorem bursts_long (w : World) (A : Option Addr) (len cap : Nat) (hl : 8192 < len) (p : Int) (m : Nat) :
    Calls Try.prog 6 #[.slice A len cap, .int .i64 p, .int .u32 (m : Int)] w fun e w' => e = .returned (.bool true) ∧ Below w.heap.size w w' := by
  have hd1 : decide ((1000 : Int) < (len : Int)) = true := by simp; omega
  have hd2 : decide ((8192 : Int) < (len : Int)) = true := by simp; omega
  go_enter Try.func6, Try.ntmps6
  go_wp2_with fail
  refine (small_any _).mono ?_
  rintro e w1 ⟨rfl, hb1⟩
  go_wp2_with fail
  refine (make_long A len cap hl _).mono ?_
  rintro e w2 ⟨rfl, rfl⟩
  go_wp2_with fail
  go_ret
  exact ⟨rfl, hb1⟩
set_option maxRecDepth 100000 in
set_option maxHeartbeats 800000 in
theorem bursts_out (w : World) (A : Option Addr) (bs : List UInt8) (len cap : Nat) (hl : bs.length = len) (hn : len ≤ 8192) (rd : Rd w A bs) (p : Int) (m : Nat) (h : 1000 < len ∨ m = 0 ∨ p < 0 ∨ 8 * (len : Int) + 48 < p) :
    Calls Try.prog 6 #[.slice A len cap, .int .i64 p, .int .u32 (m : Int)] w fun e w' => e = .returned (.bool true) ∧ Below w.heap.size w w' := by
  have HL := Lib.hid hl
  clear hl
  go_enter Try.func6, Try.ntmps6
  go_wp2_with fail
  refine (small_any _).mono ?_
  rintro e w1 ⟨rfl, hb1⟩
  go_wp2_with fail
  refine (make_at A bs len (len + 10) cap HL.out hn rfl _ (rd.below hb1)).mono ?_
  rintro e w2 ⟨g, rfl, hg2, hb2, hB2⟩
  replace hb2 := below_next hb1 (Nat.le_refl _) hb2
  clear hB2 hg2 hb1
  by_cases h1 : (1000 : Int) < (len : Int)
  · have hd1 : decide ((1000 : Int) < (len : Int)) = true := by simpa using h1
    go_wp2_with fail
    go_ret
    exact ⟨rfl, hb2⟩
  · have hd1 : decide ((1000 : Int) < (len : Int)) = false := by simpa using h1
    by_cases h0 : m = 0
    · subst h0
      go_wp2_with fail
      go_ret
      exact ⟨rfl, hb2⟩
    · have hd0 : ((m : Int) == 0) = false := by simp; omega
      by_cases h2 : p < 0
      · have hd2 : decide (p < 0) = true := by simpa using h2
        go_wp2_with fail
        go_ret
        exact ⟨rfl, hb2⟩
      · have hd2 : decide (p < 0) = false := by simpa using h2
        have hd3 : decide (8 * ((len : Int) + 10) - 32 < p) = true := by simp; omega
        go_wp2_with fail
        go_ret
        exact ⟨rfl, hb2⟩
set_option maxRecDepth 100000 in
set_option maxHeartbeats 800000 in
theorem bursts_in (w : World) (A : Option Addr) (bs : List UInt8) (len cap : Nat) (hl : bs.length = len) (hn : len ≤ 1000) (rd : Rd w A bs) (p m : Nat) (hp : p ≤ 8 * len + 48) (hm : m < 4294967296) (hm0 : m ≠ 0) :
    Calls Try.prog 6 #[.slice A len cap, .int .i64 (p : Int), .int .u32 (m : Int)] w fun e w' => e = .returned (.bool true) ∧ Below w.heap.size w w' := by
  have HL := Lib.hid hl
  clear hl
  have hd1 : decide ((1000 : Int) < (len : Int)) = false := by simp; omega
  have hd2 : decide ((p : Int) < 0) = false := by simp
  have hd3 : decide (8 * ((len : Int) + 10) - 32 < (p : Int)) = false := by simp; omega
  have hd4 : ((m : Int) == 0) = false := by simp; omega
  have HM0 := Lib.hid hm0
  clear hm0
  go_enter Try.func6, Try.ntmps6
  go_wp2_with fail
  refine (small_any _).mono ?_
  rintro e w1 ⟨rfl, hb1⟩
  go_wp2_with fail
  refine (make_at A bs len (len + 10) cap HL.out (by omega) rfl _ (rd.below hb1)).mono ?_
  rintro e w2 ⟨g, rfl, hg2, hb2, hB2⟩
  replace hb2 := below_next hb1 (Nat.le_refl _) hb2
  have hg : w.heap.size ≤ g := Nat.le_trans hb1.size hg2
  go_wp2_with fail
  go_loopw [10] (fun i wr => ∃ k : Nat, k ≤ 32 ∧ i = .int .i64 k ∧ Below w.heap.size w wr ∧ Blk wr g 5 ((Crc.burst (Frm.frame bs) p m k).map Bv).toArray) (fun i _ => 32 - (intOf i).toNat)
  case atStart => exact ⟨0, by omega, rfl, hb2, hB2⟩
  case round =>
    obtain ⟨k, hk, rfl, hbw, hB⟩ := hrel
    have HC : Hid ((Crc.burst (Frm.frame bs) p m k).length = len + 10) := by rw [Hid, Crc.burst_length, Frm.frame_length, HL.out]
    by_cases hlt : k < 32
    · obtain ⟨x, hx⟩ : ∃ x, (Crc.burst (Frm.frame bs) p m k)[(p + k) / 8]? = some x := ⟨_, List.getElem?_eq_getElem (by rw [HC.out]; omega)⟩
      have hcx : wr.cell? ⟨g, (p + k) / 8, none⟩ = some (.int .u8 (x.toNat : Int)) := (hB.cell _).trans (by simp [hx, Bv])
      have hfx := hB.frozen ((p + k) / 8)
      have HX := Lib.hid hx
      clear hx
      by_cases hb : m / 2 ^ k % 2 = 1
      · have hbit : (((m : Int) / 2 ^ k).tmod 2 == 1) = true := bit_yes m k hb
        have HBIT := Lib.hid hb
        clear hb
        go_wp2_with fail
        go_roundw
        case rel =>
          refine ⟨k + 1, by omega, by go_num, hbw.setCell hg _, ?_⟩
          have e : Crc.burst (Frm.frame bs) p m (k + 1) = Crc.turn (Crc.burst (Frm.frame bs) p m k) (p + k) := by simp only [Crc.burst]; rw [if_pos HBIT.out]
          rw [e, xor_bit]; exact blk_turn hB (p + k) x HX.out
        case measure => simp [intOf]; omega
      · have hbit : (((m : Int) / 2 ^ k).tmod 2 == 1) = false := bit_no m k hb
        have HBIT := Lib.hid hb
        clear hb
        go_wp2_with fail
        go_roundw
        case rel =>
          refine ⟨k + 1, by omega, by go_num, hbw, ?_⟩
          have e : Crc.burst (Frm.frame bs) p m (k + 1) = Crc.burst (Frm.frame bs) p m k := by simp only [Crc.burst]; rw [if_neg HBIT.out]
          rw [e]; exact hB
        case measure => simp [intOf]; omega
    · obtain rfl : k = 32 := by omega
      have HE := Lib.hid (Frm.err_burst bs (by rw [HL.out]; omega) p m (by rw [HL.out]; omega) hm HM0.out)
      go_wp2_with fail
      refine (next_bad _ (Crc.burst (Frm.frame bs) p m 32) _ 6 _ HC.out (Nat.le_refl _) (by omega) _ hB.rd HE.out (by decide)).mono ?_
      rintro e w4 ⟨rfl, hb4⟩
      replace hb4 := below_next hbw (Nat.le_refl _) hb4
      go_wp2_with fail
      go_ret
      exact ⟨rfl, hb4⟩
theorem walk_FrameBursts (w : World) (A : Option Addr) (bs : List UInt8) (len cap : Nat) (hl : bs.length = len) (_hc : len ≤ cap) (_hm : cap ≤ 140737488351232) (rd : Rd w A bs)
    (p : Int) (_ : (Lit.int .i64 p).wf = true) (m : Int) (wm : (Lit.int .u32 m).wf = true) :
    Calls Try.prog 6 #[.slice A len cap, .int .i64 p, .int .u32 m] w fun e w' => e = .returned (.bool true) ∧ Below w.heap.size w w' := by
  have hb := bounds_u32 wm
  obtain ⟨n, rfl⟩ := Int.eq_ofNat_of_zero_le hb.1
  by_cases h8 : 8192 < len
  · exact bursts_long w A len cap h8 p n
  · by_cases h : 1000 < len ∨ n = 0 ∨ p < 0 ∨ 8 * (len : Int) + 48 < p
    · exact bursts_out w A bs len cap hl (by omega) rd p n h
    · obtain ⟨k, rfl⟩ := Int.eq_ofNat_of_zero_le (show 0 ≤ p by omega)
      exact bursts_in w A bs len cap hl (by omega) rd k n (by omega) (by omega) (by omega)

/-! ### The row's step. -/
namespace frameBursts
theorem own : ownKnob Try.prog.godebug = none := by kernel_rfl
theorem laidOut : laidOutB Try.prog = true := by kernel_rfl
set_option linter.unusedVariables false in
set_option maxRecDepth 100000 in
theorem lifted (os : Os) (started : os.Started) (H : Type) (enc : TypeId × Value → H) :
    ReturnsInHanded {} Try.checked os 6 .any (Rows.frameBurstsSpec.pre6 enc Try.prog Try.f6 Rows.frameBurstsRow.domain false) (Rows.frameBurstsSpec.post enc Try.prog Try.f6 false true false false) := by
  refine returnsInHanded_of_change_sized (C := Try.checked) own started (by kernel_rfl) Try.func6
    (ChangeSpec.witness6 (enc := enc) (C := Try.checked) false ⟨#[], #[.slice none 0 0, .int .i64 0, .int .u32 0], []⟩ 8 (by kernel_rfl) (by kernel_rfl) (by kernel_rfl) (by kernel_rfl)) ?_
  intro W base args ds gs before hval0 hW hcnd hsz0 _
  have hval : ∀ (j : Nat) t v, Try.f6.params[j]? = some t → args[j]? = some v → Value.okWide Try.prog W .any base t v := hval0
  have hsz : (DataW.weightsEach Try.prog (Try.f6.params.toList ++ Rows.frameBurstsSpec.plain.varTypes Try.prog) (ds ++ gs)).all (· ≤ reachBytes) = true := hsz0
  have hW' := hW
  obtain ⟨p, q, hA0, hV, rfl, hfz, hnd⟩ := hW
  have hA : DataW.TrodAll enc Try.prog W 0 (fun _ => true) true Try.f6.params.toList args.toList ds p := hA0
  rw [Try.params6] at hA hval hsz
  obtain ⟨v0, vs0, d0, ds0, p0, q0, hargs, rfl, rfl, h0, r0⟩ := trodAll_cons hA
  obtain ⟨v1, vs1, d1, ds1, p1, q1, rfl, rfl, rfl, h1, r1⟩ := trodAll_cons r0
  obtain ⟨v2, vs2, d2, ds2, p2, q2, rfl, rfl, rfl, h2, r2⟩ := trodAll_cons r1
  obtain ⟨rfl, rfl, rfl⟩ := trodAll_nil r2
  obtain rfl : args = #[v0, v1, v2] := by cases args; simp_all
  obtain ⟨rfl, rfl⟩ := trodVars_none hV
  obtain ⟨a0, len0, cap0, rfl⟩ := okWide_slice Try.underlying22 (hval 0 22 v0 rfl rfl)
  have k0 := h0
  have lt0 : ∀ x ∈ p0, x.block < W.heap.size := by obtain ⟨m, hm⟩ := k0; exact DataW.trod_lt m _ _ _ hm
  obtain ⟨bs0, hl0, hc0, hm0, rd0⟩ : ∃ bs : List UInt8, bs.length = len0 ∧ len0 ≤ cap0 ∧ cap0 ≤ 140737488351232 ∧ Rd W a0 bs := by
    obtain ⟨fuel, hf⟩ := h0
    rcases open_ints Try.underlying22 Try.underlying5 (by kernel_rfl) hf with ⟨hcs, _⟩ | ⟨x, l, c, zs, hcs, _, hl, hm, hz, hx, hcell, hwz⟩
    · simp [Value.cells] at hcs
      obtain ⟨rfl, rfl, rfl⟩ := hcs
      exact ⟨[], rfl, by omega, by omega, .inl rfl⟩
    · simp [Value.cells] at hcs
      obtain ⟨rfl, rfl, rfl⟩ := hcs
      have hz' : zs.length = cap0 := by simpa using hz
      have hd : d0 = .slice (lits .u8 (zs.take len0)) (lits .u8 (zs.drop len0)) := congrArg Prod.fst hx
      have hb := sized_slice hsz (j := 0) (t := 22) (elems := lits .u8 (zs.take len0)) (spare := lits .u8 (zs.drop len0)) rfl (by rw [hd]; rfl) Try.underlying22
      have hb' : cap0 ≤ 140737488351232 := by
        rw [show Try.prog.bytesOf 5 = 1 from by kernel_rfl] at hb
        simp [lits, reachBytes] at hb; omega
      obtain ⟨bs, e1, e2⟩ := rd_of_ints hl hz' hcell hwz
      exact ⟨bs, e1, hl, hb', e2⟩
  obtain ⟨a1, rfl, rfl, rfl, w1⟩ := open_int Try.underlying3 (hval 1 3 v1 rfl rfl) h1
  obtain ⟨a2, rfl, rfl, rfl, w2⟩ := open_int Try.underlying37 (hval 2 37 v2 rfl rfl) h2
  clear hA0 hval0
  refine (walk_FrameBursts W a0 bs0 len0 cap0 hl0 hc0 hm0 rd0 a1 w1 a2 w2).mono fun e W' ⟨he, bel⟩ => ?_
  subst he
  exact ⟨_, rfl, _, _, _, [], _, [], hW', trodAll_mk1 (shut_bool Try.underlying4 _), (trodAll_cons_mk (Below.trod laidOut (by kernel_rfl) (of_decide_eq_true (by kernel_rfl)) k0 bel lt0) (trodAll_cons_mk (shut_int Try.underlying3 w1) (trodAll_cons_mk (shut_int Try.underlying37 w2) trodAll_mk0))), rfl, bel.frame _, fun h => by cases h⟩
theorem over : Rows.frameBurstsRow.holds Try.pinned (OpenSpec.ofChange Rows.frameBurstsSpec) :=
  OpenClaim.holds_of_wide 6 Try.f6 rfl rfl rfl rfl rfl rfl rfl ⟨rfl, rfl, rfl, rfl, rfl⟩ rfl rfl rfl rfl rfl (by kernel_rfl) Try.func6 (by kernel_rfl)
    (of_decide_eq_true (by kernel_rfl)) (by unfold Func.isWrapper; first | (rw [if_pos (by decide +kernel)]; kernel_rfl) | (rw [if_neg (by decide +kernel)]; exact ⟨rfl, rfl⟩))
    (fun os started H enc _ => lifted os started H enc)
end frameBursts
/-- THE STATEMENT. -/
theorem frameBursts_holds : Rows.FrameBurstsSaid := frameBursts.over
#print axioms frameBursts_holds
end Go.Proofs.Ytncpbmokbnjjoaa
