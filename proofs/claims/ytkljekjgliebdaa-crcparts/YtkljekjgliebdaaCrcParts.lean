/-
  Bytes are summed piece by piece: for every start, all bytes and every cut, the call of the law answers true, and all arguments read behind it as they read before. No condition.
-/
import Derived.Test.YtkljekjgliebdaaSml
namespace Go.Proofs.Ytkljekjgliebdaa
open Go.RowKit Go.ChangeShapes Go.WideShapes Go.ChangeAt
/-- Where nothing is asked: the small case alone. -/
theorem parts_out (w : World) (n : Nat) (A : Option Addr) (len cap : Nat) (c : Int) (h : 1000 < len ∨ c < 0 ∨ (len : Int) < c) :
    Calls Try.prog 4 #[.int .u32 (n : Int), .slice A len cap, .int .i64 c] w fun e w' => e = .returned (.bool true) ∧ Below w.heap.size w w' := by
  go_enter Try.func4, Try.ntmps4
  go_wp2_with fail
  refine (small_any _).mono ?_
  rintro e w1 ⟨rfl, hb1⟩
  by_cases h1 : (1000 : Int) < (len : Int)
  · have hd1 : decide ((1000 : Int) < (len : Int)) = true := by simpa using h1
    go_wp2_with fail
    go_ret
    exact ⟨rfl, hb1⟩
  · have hd1 : decide ((1000 : Int) < (len : Int)) = false := by simpa using h1
    by_cases h2 : c < 0
    · have hd2 : decide (c < 0) = true := by simpa using h2
      go_wp2_with fail
      go_ret
      exact ⟨rfl, hb1⟩
    · have hd2 : decide (c < 0) = false := by simpa using h2
      have hd3 : decide ((len : Int) < c) = true := by simp; omega
      go_wp2_with fail
      go_ret
      exact ⟨rfl, hb1⟩
set_option maxRecDepth 100000 in
set_option maxHeartbeats 800000 in
theorem parts_in (w : World) (n : Nat) (hn : n < 4294967296) (A : Option Addr) (bs : List UInt8) (len cap : Nat) (hl : bs.length = len) (hc : len ≤ cap) (hm : len ≤ 1000) (rd : Rd w A bs) (k : Nat) (hk : k ≤ len) :
    Calls Try.prog 4 #[.int .u32 (n : Int), .slice A len cap, .int .i64 (k : Int)] w fun e w' => e = .returned (.bool true) ∧ Below w.heap.size w w' := by
  have HL := Lib.hid hl
  clear hl
  have hd1 : decide ((1000 : Int) < (len : Int)) = false := by simp; omega
  have hd2 : decide ((k : Int) < 0) = false := by simp
  have hd3 : decide ((len : Int) < (k : Int)) = false := by simp; omega
  have hi1 : (0 : Int) ≤ (k : Int) := by omega
  have hi2 : (k : Int) ≤ (len : Int) := by omega
  have hi3 : (k : Int) ≤ (cap : Int) := by omega
  have hi4 : (len : Int) ≤ (cap : Int) := by omega
  have HE : Hid (Crc.add (Crc.add n (bs.take k)) (bs.drop k) = Crc.add n bs) := by rw [Hid, Crc.add_add, List.take_append_drop]
  have hlt1 : Crc.add n (bs.take k) < 4294967296 := Crc.add_lt _ _ hn
  have e0 : ((Crc.add 0 bs : Int) == (Crc.sum bs : Int)) = true := by simp [Crc.sum]
  by_cases hck : cap = k
  · obtain rfl : len = k := by omega
    subst hck
    have HT : Hid (bs.take cap = bs) := List.take_of_length_le (by rw [HL.out]; omega)
    have HD : Hid (bs.drop cap = []) := List.drop_eq_nil_of_le (by rw [HL.out]; omega)
    rw [HT.out] at hlt1
    rw [HT.out, HD.out] at HE
    go_enter Try.func4, Try.ntmps4
    go_wp2_with fail
    refine (small_any _).mono ?_
    rintro e w1 ⟨rfl, hb1⟩
    go_wp2_with fail
    have hS : Below w.heap.size w w1.drew := hb1.drew
    go_region_held3 (fun w' => Below w.heap.size w w') (first | assumption)
      (first
        | (go_at_call_of 18 (Crc.add n bs); ((with_reducible refine (add_at _ (Crc.add n bs) ?_ _ [] _ _ ?_ ?_ ?_ _ ?_).mono ?_); (rfl); (exact hlt1); (simp); (omega); (exact .inl rfl); rintro e w3 ⟨rfl, hb3⟩; rw [HE.out]; have hS3 := below_next (by assumption) (Nat.le_refl _) hb3))
        | (go_at_call_of 18 (Value.int .u32 0); ((with_reducible refine (add_at _ 0 ?_ _ bs _ _ ?_ ?_ ?_ _ ?_).mono ?_); (rfl); (decide); (exact HL.out); (omega); (exact (rd.below (by assumption))); rintro e w5 ⟨rfl, hb5⟩; have hS4 := below_next (by assumption) (Nat.le_refl _) hb5))
        | (go_at_call 18; ((with_reducible refine (add_at _ n ?_ _ bs _ _ ?_ ?_ ?_ _ ?_).mono ?_); (rfl); (exact hn); (exact HL.out); (omega); (exact (rd.below (by assumption))); rintro e w4 ⟨rfl, hb4⟩; have hS3 := below_next (by assumption) (Nat.le_refl _) hb4))
        | (go_at_call 16; ((with_reducible refine (sum_at _ bs _ _ ?_ ?_ _ ?_).mono ?_); (exact HL.out); (unfold maxLen; omega); (exact (rd.below (by assumption))); rintro e w6 ⟨rfl, hb6⟩; have hS5 := below_next (by assumption) (Nat.le_refl _) hb6)))
    go_wp2_with fail
    go_ret
    exact ⟨rfl, by assumption⟩
  · go_enter Try.func4, Try.ntmps4
    go_wp2_with fail
    refine (small_any _).mono ?_
    rintro e w1 ⟨rfl, hb1⟩
    go_wp2_with fail
    have hS : Below w.heap.size w w1.drew := hb1.drew
    go_region_held3 (fun w' => Below w.heap.size w w') (first | assumption)
      (first
        | (go_at_call_of 18 (Value.slice A k cap); ((with_reducible refine (add_at _ n ?_ _ (bs.take k) _ _ ?_ ?_ ?_ _ ?_).mono ?_); (rfl); (exact hn); (rw [List.length_take, HL.out]; omega); (omega); (exact (rd.below (by assumption)).take _); rintro e w2 ⟨rfl, hb2⟩; have hS1 := below_next (by assumption) (Nat.le_refl _) hb2))
        | (go_at_call_of 18 (Crc.add n (bs.take k)); ((with_reducible refine (add_at _ (Crc.add n (bs.take k)) ?_ _ (bs.drop k) _ _ ?_ ?_ ?_ _ ?_).mono ?_); (rfl); (exact hlt1); (rw [List.length_drop, HL.out]); (omega); (exact (rd.below (by assumption)).cut _); rintro e w3 ⟨rfl, hb3⟩; rw [HE.out]; have hS2 := below_next (by assumption) (Nat.le_refl _) hb3))
        | (go_at_call_of 18 (Value.int .u32 0); ((with_reducible refine (add_at _ 0 ?_ _ bs _ _ ?_ ?_ ?_ _ ?_).mono ?_); (rfl); (decide); (exact HL.out); (omega); (exact (rd.below (by assumption))); rintro e w5 ⟨rfl, hb5⟩; have hS4 := below_next (by assumption) (Nat.le_refl _) hb5))
        | (go_at_call 18; ((with_reducible refine (add_at _ n ?_ _ bs _ _ ?_ ?_ ?_ _ ?_).mono ?_); (rfl); (exact hn); (exact HL.out); (omega); (exact (rd.below (by assumption))); rintro e w4 ⟨rfl, hb4⟩; have hS3 := below_next (by assumption) (Nat.le_refl _) hb4))
        | (go_at_call 16; ((with_reducible refine (sum_at _ bs _ _ ?_ ?_ _ ?_).mono ?_); (exact HL.out); (unfold maxLen; omega); (exact (rd.below (by assumption))); rintro e w6 ⟨rfl, hb6⟩; have hS5 := below_next (by assumption) (Nat.le_refl _) hb6)))
    go_wp2_with fail
    go_ret
    exact ⟨rfl, by assumption⟩
theorem walk_CrcParts (w : World) (a0 : Int) (w0 : (Lit.int .u32 a0).wf = true) (a1 : Option Addr) (bs : List UInt8) (len cap : Nat) (hl : bs.length = len) (hc : len ≤ cap) (_hm : cap ≤ 140737488351232) (rd : Rd w a1 bs) (a2 : Int) (_w2 : (Lit.int .i64 a2).wf = true) :
    Calls Try.prog 4 #[.int .u32 a0, .slice a1 len cap, .int .i64 a2] w fun e w' => e = .returned (.bool true) ∧ Below w.heap.size w w' := by
  have hb := bounds_u32 w0
  obtain ⟨n, rfl⟩ := Int.eq_ofNat_of_zero_le hb.1
  by_cases h : 1000 < len ∨ a2 < 0 ∨ (len : Int) < a2
  · exact parts_out w n a1 len cap a2 h
  · obtain ⟨k, rfl⟩ := Int.eq_ofNat_of_zero_le (show 0 ≤ a2 by omega)
    exact parts_in w n (by omega) a1 bs len cap hl hc (by omega) rd k (by omega)

/-! ### The row's step. -/
namespace crcParts
theorem own : ownKnob Try.prog.godebug = none := by kernel_rfl
theorem laidOut : laidOutB Try.prog = true := by kernel_rfl
set_option linter.unusedVariables false in
set_option maxRecDepth 100000 in
theorem lifted (os : Os) (started : os.Started) (H : Type) (enc : TypeId × Value → H) :
    ReturnsInHanded {} Try.checked os 4 .any (Rows.crcPartsSpec.pre6 enc Try.prog Try.f4 Rows.crcPartsRow.domain false) (Rows.crcPartsSpec.post enc Try.prog Try.f4 false true false false) := by
  refine returnsInHanded_of_change_sized (C := Try.checked) own started (by kernel_rfl) Try.func4
    (ChangeSpec.witness6 (enc := enc) (C := Try.checked) false ⟨#[], #[.int .u32 0, .slice none 0 0, .int .i64 0], []⟩ 8 (by kernel_rfl) (by kernel_rfl) (by kernel_rfl) (by kernel_rfl)) ?_
  intro W base args ds gs before hval0 hW hcnd hsz0 _
  have hval : ∀ (j : Nat) t v, Try.f4.params[j]? = some t → args[j]? = some v → Value.okWide Try.prog W .any base t v := hval0
  have hsz : (DataW.weightsEach Try.prog (Try.f4.params.toList ++ Rows.crcPartsSpec.plain.varTypes Try.prog) (ds ++ gs)).all (· ≤ reachBytes) = true := hsz0
  have hW' := hW
  obtain ⟨p, q, hA0, hV, rfl, hfz, hnd⟩ := hW
  have hA : DataW.TrodAll enc Try.prog W 0 (fun _ => true) true Try.f4.params.toList args.toList ds p := hA0
  rw [Try.params4] at hA hval hsz
  obtain ⟨v0, vs0, d0, ds0, p0, q0, hargs, rfl, rfl, h0, r0⟩ := trodAll_cons hA
  obtain ⟨v1, vs1, d1, ds1, p1, q1, rfl, rfl, rfl, h1, r1⟩ := trodAll_cons r0
  obtain ⟨v2, vs2, d2, ds2, p2, q2, rfl, rfl, rfl, h2, r2⟩ := trodAll_cons r1
  obtain ⟨rfl, rfl, rfl⟩ := trodAll_nil r2
  obtain rfl : args = #[v0, v1, v2] := by cases args; simp_all
  obtain ⟨rfl, rfl⟩ := trodVars_none hV
  obtain ⟨a0, rfl, rfl, rfl, w0⟩ := open_int Try.underlying22 (hval 0 22 v0 rfl rfl) h0
  obtain ⟨a1, len1, cap1, rfl⟩ := okWide_slice Try.underlying23 (hval 1 23 v1 rfl rfl)
  have k1 := h1
  have lt1 : ∀ x ∈ p1, x.block < W.heap.size := by obtain ⟨m, hm⟩ := k1; exact DataW.trod_lt m _ _ _ hm
  obtain ⟨bs1, hl1, hc1, hm1, rd1⟩ : ∃ bs : List UInt8, bs.length = len1 ∧ len1 ≤ cap1 ∧ cap1 ≤ 140737488351232 ∧ Rd W a1 bs := by
    obtain ⟨fuel, hf⟩ := h1
    rcases open_ints Try.underlying23 Try.underlying5 (by kernel_rfl) hf with ⟨hcs, _⟩ | ⟨x, l, c, zs, hcs, _, hl, hm, hz, hx, hcell, hwz⟩
    · simp [Value.cells] at hcs
      obtain ⟨rfl, rfl, rfl⟩ := hcs
      exact ⟨[], rfl, by omega, by omega, .inl rfl⟩
    · simp [Value.cells] at hcs
      obtain ⟨rfl, rfl, rfl⟩ := hcs
      have hz' : zs.length = cap1 := by simpa using hz
      have hd : d1 = .slice (lits .u8 (zs.take len1)) (lits .u8 (zs.drop len1)) := congrArg Prod.fst hx
      have hb := sized_slice hsz (j := 1) (t := 23) (elems := lits .u8 (zs.take len1)) (spare := lits .u8 (zs.drop len1)) rfl (by rw [hd]; rfl) Try.underlying23
      have hb' : cap1 ≤ 140737488351232 := by
        rw [show Try.prog.bytesOf 5 = 1 from by kernel_rfl] at hb
        simp [lits, reachBytes] at hb; omega
      obtain ⟨bs, e1, e2⟩ := rd_of_ints hl hz' hcell hwz
      exact ⟨bs, e1, hl, hb', e2⟩
  obtain ⟨a2, rfl, rfl, rfl, w2⟩ := open_int Try.underlying3 (hval 2 3 v2 rfl rfl) h2
  clear hA0 hval0
  refine (walk_CrcParts W a0 w0 a1 bs1 len1 cap1 hl1 hc1 hm1 rd1 a2 w2).mono fun e W' ⟨he, bel⟩ => ?_
  subst he
  exact ⟨_, rfl, _, _, _, [], _, [], hW', trodAll_mk1 (shut_bool Try.underlying4 _), (trodAll_cons_mk (shut_int Try.underlying22 w0) (trodAll_cons_mk (Below.trod laidOut (by kernel_rfl) (of_decide_eq_true (by kernel_rfl)) k1 bel lt1) (trodAll_cons_mk (shut_int Try.underlying3 w2) trodAll_mk0))), rfl, bel.frame _, fun h => by cases h⟩
theorem over : Rows.crcPartsRow.holds Try.pinned (OpenSpec.ofChange Rows.crcPartsSpec) :=
  OpenClaim.holds_of_wide 4 Try.f4 rfl rfl rfl rfl rfl rfl rfl ⟨rfl, rfl, rfl, rfl, rfl⟩ rfl rfl rfl rfl rfl (by kernel_rfl) Try.func4 (by kernel_rfl)
    (of_decide_eq_true (by kernel_rfl)) (by unfold Func.isWrapper; first | (rw [if_pos (by decide +kernel)]; kernel_rfl) | (rw [if_neg (by decide +kernel)]; exact ⟨rfl, rfl⟩))
    (fun os started H enc _ => lifted os started H enc)
end crcParts
/-- THE STATEMENT. -/
theorem crcParts_holds : Rows.CrcPartsSaid := crcParts.over
#print axioms crcParts_holds
end Go.Proofs.Ytkljekjgliebdaa
