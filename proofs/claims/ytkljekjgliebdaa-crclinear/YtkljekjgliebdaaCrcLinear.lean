/-
  Three rows of as many bytes, xored, have the xored sums: for any three the call of the law answers true, and all arguments read behind it as they read before. No condition.
-/
import Derived.Test.YtkljekjgliebdaaSml
namespace Go.Proofs.Ytkljekjgliebdaa
open Go.RowKit Go.ChangeShapes Go.WideShapes Go.ChangeAt
/-- Three rows of xs many bytes, xored. -/
def xor3 : List UInt8 → List UInt8 → List UInt8 → List UInt8
  | a :: xs, b :: bs, c :: cs => (a ^^^ b ^^^ c) :: xor3 xs bs cs
  | _, _, _ => []
theorem xor3_length : ∀ (xs bs cs : List UInt8), xs.length = bs.length → xs.length = cs.length → (xor3 xs bs cs).length = xs.length
  | [], _, _, _, _ => by simp [xor3]
  | _ :: _, [], _, h, _ => by simp at h
  | _ :: _, _ :: _, [], _, h => by simp at h
  | a :: xs, b :: bs, c :: cs, h1, h2 => by
    simp only [xor3, List.length_cons]
    rw [xor3_length xs bs cs (by simpa using h1) (by simpa using h2)]
theorem xor3_at : ∀ (xs bs cs : List UInt8) (k : Nat) (ha : k < xs.length) (hb : k < bs.length) (hc : k < cs.length), (xor3 xs bs cs)[k]? = some (xs[k] ^^^ bs[k] ^^^ cs[k])
  | [], _, _, _, h, _, _ => by simp at h
  | _ :: _, [], _, _, _, h, _ => by simp at h
  | _ :: _, _ :: _, [], _, _, _, h => by simp at h
  | a :: xs, b :: bs, c :: cs, 0, _, _, _ => by simp [xor3]
  | a :: xs, b :: bs, c :: cs, k + 1, h1, h2, h3 => by
    simp only [xor3, List.getElem?_cons_succ, List.getElem_cons_succ]
    exact xor3_at xs bs cs k _ _ _
theorem xor_swap (a b c x y z : Nat) : a ^^^ b ^^^ c ^^^ (x ^^^ y ^^^ z) = (a ^^^ x) ^^^ (b ^^^ y) ^^^ (c ^^^ z) := by
  apply Nat.eq_of_testBit_eq; intro i
  simp only [Nat.testBit_xor]
  cases a.testBit i <;> cases b.testBit i <;> cases c.testBit i <;> cases x.testBit i <;> cases y.testBit i <;> cases z.testBit i <;> rfl
theorem fold3 : ∀ (xs bs cs : List UInt8) (r s t : Nat), xs.length = bs.length → xs.length = cs.length →
    Crc.fold (r ^^^ s ^^^ t) (xor3 xs bs cs) = Crc.fold r xs ^^^ Crc.fold s bs ^^^ Crc.fold t cs
  | [], [], [], _, _, _, _, _ => rfl
  | [], _ :: _, _, _, _, _, h, _ => by simp at h
  | [], [], _ :: _, _, _, _, _, h => by simp at h
  | _ :: _, [], _, _, _, _, h, _ => by simp at h
  | _ :: _, _ :: _, [], _, _, _, _, h => by simp at h
  | a :: xs, b :: bs, c :: cs, r, s, t, h1, h2 => by
    simp only [xor3, Crc.fold_cons]
    rw [← fold3 xs bs cs _ _ _ (by simpa using h1) (by simpa using h2)]
    congr 1
    simp only [Crc.upd_eq, UInt8.toNat_xor]
    rw [xor_swap, Crc.steps_xor, Crc.steps_xor]
theorem sum3 (xs bs cs : List UInt8) (h1 : xs.length = bs.length) (h2 : xs.length = cs.length) : Crc.sum (xor3 xs bs cs) = Crc.sum xs ^^^ Crc.sum bs ^^^ Crc.sum cs := by
  have h := fold3 xs bs cs Crc.all1 Crc.all1 Crc.all1 h1 h2
  rw [Nat.xor_self, Nat.zero_xor] at h
  unfold Crc.sum Crc.add
  rw [Nat.xor_zero, h]
  generalize Crc.fold Crc.all1 xs = x
  generalize Crc.fold Crc.all1 bs = y
  generalize Crc.fold Crc.all1 cs = z
  rw [← xor_swap, Nat.xor_self, Nat.zero_xor]
theorem xor8b (x y z : UInt8) : bits .xor .u8 (bits .xor .u8 (x.toNat : Int) (y.toNat : Int)) (z.toNat : Int) = (((x ^^^ y ^^^ z : UInt8).toNat : Nat) : Int) := by
  rw [u8_xor_nat _ _ x.toNat_lt y.toNat_lt, u8_xor_nat _ _ (Nat.xor_lt_two_pow (n := 8) x.toNat_lt y.toNat_lt) z.toNat_lt]; simp
theorem linear_out (w : World) (A B C : Option Addr) (la ca lb cb lc cc : Nat) (h : 1000 < la ∨ la ≠ lb ∨ la ≠ lc) :
    Calls Try.prog 8 #[.slice A la ca, .slice B lb cb, .slice C lc cc] w fun e w' => e = .returned (.bool true) ∧ Below w.heap.size w w' := by
  go_enter Try.func8, Try.ntmps8
  go_wp2_with fail
  refine (small_any _).mono ?_
  rintro e w1 ⟨rfl, hb1⟩
  by_cases h1 : (1000 : Int) < (la : Int)
  · have hd1 : decide ((1000 : Int) < (la : Int)) = true := by simpa using h1
    go_wp2_with fail
    go_ret
    exact ⟨rfl, hb1⟩
  · have hd1 : decide ((1000 : Int) < (la : Int)) = false := by simpa using h1
    by_cases h2 : la = lb
    · subst h2
      have hd3 : ((la : Int) != (lc : Int)) = true := by rw [bne_iff_ne]; omega
      go_wp2_with fail
      go_ret
      exact ⟨rfl, hb1⟩
    · have hd3 : ((la : Int) != (lb : Int)) = true := by rw [bne_iff_ne]; omega
      go_wp2_with fail
      go_ret
      exact ⟨rfl, hb1⟩
set_option maxRecDepth 100000 in
set_option maxHeartbeats 800000 in
theorem linear_in (w : World) (A B C : Option Addr) (xs bs cs : List UInt8) (n ca cb cc : Nat) (hn : n ≤ 1000) (ha : xs.length = n) (hb : bs.length = n) (hc : cs.length = n) (ra : Rd w A xs) (rb : Rd w B bs) (rc : Rd w C cs) :
    Calls Try.prog 8 #[.slice A n ca, .slice B n cb, .slice C n cc] w fun e w' => e = .returned (.bool true) ∧ Below w.heap.size w w' := by
  have HA := Lib.hid ha
  have HB := Lib.hid hb
  have HC := Lib.hid hc
  clear ha hb hc
  have hd1 : decide ((1000 : Int) < (n : Int)) = false := by simp; omega
  obtain ⟨i0, hi0, hz0, hz1, hz2⟩ := info_parts byte_info
  have hmk := fun W => run_make (P := Try.prog) W 23 5 i0 _ Try.underlying23 hi0 hz0 .i64 .i64 n n (by omega) (by omega) (by rw [hz2]; omega) (by omega)
  obtain ⟨Z, hZ⟩ : ∃ Z : List Value, Z = (madeCells #[Value.int IntKind.u8 0] n).toList := ⟨_, rfl⟩
  have HZ := Lib.hid hZ
  clear hZ
  have HZl : Hid (Z.length = n) := by rw [Hid, HZ.out]; simp [size_madeCells]
  have HX : Hid ((xor3 xs bs cs).length = n) := by rw [Hid, xor3_length xs bs cs (HA.out.trans HB.out.symm) (HA.out.trans HC.out.symm)]; exact HA.out
  go_enter Try.func8, Try.ntmps8
  go_wp2_with fail
  refine (small_any _).mono ?_
  rintro e w1 ⟨rfl, hb1⟩
  go_wp2_with fail
  go_loopw [9] (fun i wr => ∃ k : Nat, k ≤ n ∧ i = .int .i64 k ∧ Below w.heap.size w wr ∧ Blk wr w1.heap.size 5 (((xor3 xs bs cs).map Bv).take k ++ Z.drop k).toArray) (fun i _ => n - (intOf i).toNat)
  case atStart =>
    refine ⟨0, by omega, rfl, hb1.alloc hb1.size _, ?_⟩
    simp only [List.take_zero, List.nil_append, List.drop_zero]
    rw [HZ.out]; exact Blk.new _ _ _
  case round =>
    obtain ⟨k, hk, rfl, hbw, hB⟩ := hrel
    by_cases hlt : k < n
    · obtain ⟨ga, oa, rfl, hga, hca⟩ := ra.at_below hbw (k := k) (by rw [HA.out]; exact hlt)
      obtain ⟨gb, ob, rfl, hgb, hcb⟩ := rb.at_below hbw (k := k) (by rw [HB.out]; exact hlt)
      obtain ⟨gc, oc, rfl, hgc, hcc⟩ := rc.at_below hbw (k := k) (by rw [HC.out]; exact hlt)
      have hxa : (xor3 xs bs cs)[k]? = some (xs[k]'(by rw [HA.out]; exact hlt) ^^^ bs[k]'(by rw [HB.out]; exact hlt) ^^^ cs[k]'(by rw [HC.out]; exact hlt)) := xor3_at xs bs cs k _ _ _
      have HXA := Lib.hid hxa
      clear hxa
      generalize xs[k]'(by rw [HA.out]; exact hlt) = x at *
      generalize bs[k]'(by rw [HB.out]; exact hlt) = y at *
      generalize cs[k]'(by rw [HC.out]; exact hlt) = z at *
      have hne1 : w1.heap.size ≠ ga := by have := hb1.size; omega
      have hne2 : w1.heap.size ≠ gb := by have := hb1.size; omega
      have hne3 : w1.heap.size ≠ gc := by have := hb1.size; omega
      have hx3 := xor8b x y z
      have hin : k < (((xor3 xs bs cs).map Bv).take k ++ Z.drop k).toArray.size := by simp [HZl.out, HX.out]; omega
      obtain ⟨v0, hcx⟩ : ∃ v, wr.cell? ⟨w1.heap.size, k, none⟩ = some v := ⟨_, (hB.cell k).trans (Array.getElem?_eq_getElem hin)⟩
      have hfx := hB.frozen k
      go_wp2_with fail
      go_region_held3 (fun w' => w'.cell? ⟨ga, oa + k, none⟩ = some (.int .u8 (x.toNat : Int)) ∧ w'.cell? ⟨gb, ob + k, none⟩ = some (.int .u8 (y.toNat : Int)) ∧ w'.cell? ⟨gc, oc + k, none⟩ = some (.int .u8 (z.toNat : Int))) (go_keep) (fail)
      go_wp2_with fail
      go_roundw
      case rel =>
        refine ⟨k + 1, by omega, by go_num, (hbw.setCell hb1.size _).drew, ?_⟩
        rw [← fill_step ((xor3 xs bs cs).map Bv) Z k (Bv (x ^^^ y ^^^ z)) (by simp [HX.out, hlt]) (by simp [HX.out, HZl.out]) (by simp [HXA.out])]
        exact hB.put k _
      case measure => simp [intOf]; omega
    · obtain rfl : k = n := by omega
      rw [List.take_of_length_le (by simp [HX.out]), List.drop_eq_nil_of_le (by rw [HZl.out]; omega), List.append_nil] at hB
      have hr0 := hB.rd
      go_wp2_with fail
      refine (sum_at _ (xor3 xs bs cs) _ _ HX.out (by unfold maxLen; omega) _ hr0).mono ?_
      rintro e w2 ⟨rfl, hb2⟩
      replace hb2 := below_next hbw (Nat.le_refl _) hb2
      go_wp2_with fail
      refine (sum_at _ xs _ _ HA.out (by unfold maxLen; omega) _ (ra.below hb2)).mono ?_
      rintro e w3 ⟨rfl, hb3⟩
      replace hb3 := below_next hb2 (Nat.le_refl _) hb3
      go_wp2_with fail
      refine (sum_at _ bs _ _ HB.out (by unfold maxLen; omega) _ (rb.below hb3)).mono ?_
      rintro e w4 ⟨rfl, hb4⟩
      replace hb4 := below_next hb3 (Nat.le_refl _) hb4
      go_wp2_with fail
      refine (sum_at _ cs _ _ HC.out (by unfold maxLen; omega) _ (rc.below hb4)).mono ?_
      rintro e w5 ⟨rfl, hb5⟩
      replace hb5 := below_next hb4 (Nat.le_refl _) hb5
      have hfin : bits .xor .u32 (bits .xor .u32 (Crc.sum xs : Int) (Crc.sum bs : Int)) (Crc.sum cs : Int) = (Crc.sum (xor3 xs bs cs) : Int) := by
        rw [xor32 _ _ (Crc.sum_lt _) (Crc.sum_lt _), xor32 _ _ (Crc.xor_lt _ _ (Crc.sum_lt _) (Crc.sum_lt _)) (Crc.sum_lt _), sum3 xs bs cs (HA.out.trans HB.out.symm) (HA.out.trans HC.out.symm)]
      go_wp2_with fail
      go_ret
      exact ⟨by simp, hb5⟩
theorem walk_CrcLinear (w : World) (A : Option Addr) (xs : List UInt8) (la ca : Nat) (ha : xs.length = la) (_ : la ≤ ca) (_ : ca ≤ 140737488351232) (ra : Rd w A xs)
    (B : Option Addr) (bs : List UInt8) (lb cb : Nat) (hb : bs.length = lb) (_ : lb ≤ cb) (_ : cb ≤ 140737488351232) (rb : Rd w B bs)
    (C : Option Addr) (cs : List UInt8) (lc cc : Nat) (hc : cs.length = lc) (_ : lc ≤ cc) (_ : cc ≤ 140737488351232) (rc : Rd w C cs) :
    Calls Try.prog 8 #[.slice A la ca, .slice B lb cb, .slice C lc cc] w fun e w' => e = .returned (.bool true) ∧ Below w.heap.size w w' := by
  by_cases h : 1000 < la ∨ la ≠ lb ∨ la ≠ lc
  · exact linear_out w A B C la ca lb cb lc cc h
  · obtain rfl : la = lb := by omega
    obtain rfl : la = lc := by omega
    exact linear_in w A B C xs bs cs la ca cb cc (by omega) ha hb hc ra rb rc

/-! ### The row's step. -/
namespace crcLinear
theorem own : ownKnob Try.prog.godebug = none := by kernel_rfl
theorem laidOut : laidOutB Try.prog = true := by kernel_rfl
set_option linter.unusedVariables false in
set_option maxRecDepth 100000 in
theorem lifted (os : Os) (started : os.Started) (H : Type) (enc : TypeId × Value → H) :
    ReturnsInHanded {} Try.checked os 8 .any (Rows.crcLinearSpec.pre6 enc Try.prog Try.f8 Rows.crcLinearRow.domain false) (Rows.crcLinearSpec.post enc Try.prog Try.f8 false true false false) := by
  refine returnsInHanded_of_change_sized (C := Try.checked) own started (by kernel_rfl) Try.func8
    (ChangeSpec.witness6 (enc := enc) (C := Try.checked) false ⟨#[], #[.slice none 0 0, .slice none 0 0, .slice none 0 0], []⟩ 8 (by kernel_rfl) (by kernel_rfl) (by kernel_rfl) (by kernel_rfl)) ?_
  intro W base args ds gs before hval0 hW hcnd hsz0 _
  have hval : ∀ (j : Nat) t v, Try.f8.params[j]? = some t → args[j]? = some v → Value.okWide Try.prog W .any base t v := hval0
  have hsz : (DataW.weightsEach Try.prog (Try.f8.params.toList ++ Rows.crcLinearSpec.plain.varTypes Try.prog) (ds ++ gs)).all (· ≤ reachBytes) = true := hsz0
  have hW' := hW
  obtain ⟨p, q, hA0, hV, rfl, hfz, hnd⟩ := hW
  have hA : DataW.TrodAll enc Try.prog W 0 (fun _ => true) true Try.f8.params.toList args.toList ds p := hA0
  rw [Try.params8] at hA hval hsz
  obtain ⟨v0, vs0, d0, ds0, p0, q0, hargs, rfl, rfl, h0, r0⟩ := trodAll_cons hA
  obtain ⟨v1, vs1, d1, ds1, p1, q1, rfl, rfl, rfl, h1, r1⟩ := trodAll_cons r0
  obtain ⟨v2, vs2, d2, ds2, p2, q2, rfl, rfl, rfl, h2, r2⟩ := trodAll_cons r1
  obtain ⟨rfl, rfl, rfl⟩ := trodAll_nil r2
  obtain rfl : args = #[v0, v1, v2] := by cases args; simp_all
  obtain ⟨rfl, rfl⟩ := trodVars_none hV
  obtain ⟨a0, len0, cap0, rfl⟩ := okWide_slice Try.underlying23 (hval 0 23 v0 rfl rfl)
  have k0 := h0
  have lt0 : ∀ x ∈ p0, x.block < W.heap.size := by obtain ⟨m, hm⟩ := k0; exact DataW.trod_lt m _ _ _ hm
  obtain ⟨bs0, hl0, hc0, hm0, rd0⟩ : ∃ bs : List UInt8, bs.length = len0 ∧ len0 ≤ cap0 ∧ cap0 ≤ 140737488351232 ∧ Rd W a0 bs := by
    obtain ⟨fuel, hf⟩ := h0
    rcases open_ints Try.underlying23 Try.underlying5 (by kernel_rfl) hf with ⟨hcs, _⟩ | ⟨x, l, c, zs, hcs, _, hl, hm, hz, hx, hcell, hwz⟩
    · simp [Value.cells] at hcs
      obtain ⟨rfl, rfl, rfl⟩ := hcs
      exact ⟨[], rfl, by omega, by omega, .inl rfl⟩
    · simp [Value.cells] at hcs
      obtain ⟨rfl, rfl, rfl⟩ := hcs
      have hz' : zs.length = cap0 := by simpa using hz
      have hd : d0 = .slice (lits .u8 (zs.take len0)) (lits .u8 (zs.drop len0)) := congrArg Prod.fst hx
      have hb := sized_slice hsz (j := 0) (t := 23) (elems := lits .u8 (zs.take len0)) (spare := lits .u8 (zs.drop len0)) rfl (by rw [hd]; rfl) Try.underlying23
      have hb' : cap0 ≤ 140737488351232 := by
        rw [show Try.prog.bytesOf 5 = 1 from by kernel_rfl] at hb
        simp [lits, reachBytes] at hb; omega
      obtain ⟨bs, e1, e2⟩ := rd_of_ints hl hz' hcell hwz
      exact ⟨bs, e1, hl, hb', e2⟩
  obtain ⟨a1, len1, cap1, rfl⟩ := okWide_slice Try.underlying23 (hval 1 23 v1 rfl rfl)
  have k1 := h1
  have lt1 : ∀ x ∈ p1, x.block < W.heap.size := by obtain ⟨m, hm⟩ := k1; exact DataW.trod_lt m _ _ _ hm
  obtain ⟨bs1, hl1, hc1, hm1, rd1⟩ : ∃ bs : List UInt8, bs.length = len1 ∧ len1 ≤ cap1 ∧ cap1 ≤ 140737488351232 ∧ Rd W a1 bs := by
    obtain ⟨fuel, hf⟩ := h1
    rcases open_ints Try.underlying23 Try.underlying5 (by kernel_rfl) hf with ⟨hcs, _⟩ | ⟨x, l, c, zs, hcs, _, hl, hm, hz, hx, hcell, hwz⟩
    · simp [Value.cells] at hcs
      obtain ⟨rfl, rfl, rfl⟩ := hcs
      exact ⟨[], rfl, by omega, by omega, .inl rfl⟩
    · simp [Value.cells] at hcs
      obtain ⟨rfl, rfl, rfl⟩ := hcs
      have hz' : zs.length = cap1 := by simpa using hz
      have hd : d1 = .slice (lits .u8 (zs.take len1)) (lits .u8 (zs.drop len1)) := congrArg Prod.fst hx
      have hb := sized_slice hsz (j := 1) (t := 23) (elems := lits .u8 (zs.take len1)) (spare := lits .u8 (zs.drop len1)) rfl (by rw [hd]; rfl) Try.underlying23
      have hb' : cap1 ≤ 140737488351232 := by
        rw [show Try.prog.bytesOf 5 = 1 from by kernel_rfl] at hb
        simp [lits, reachBytes] at hb; omega
      obtain ⟨bs, e1, e2⟩ := rd_of_ints hl hz' hcell hwz
      exact ⟨bs, e1, hl, hb', e2⟩
  obtain ⟨a2, len2, cap2, rfl⟩ := okWide_slice Try.underlying23 (hval 2 23 v2 rfl rfl)
  have k2 := h2
  have lt2 : ∀ x ∈ p2, x.block < W.heap.size := by obtain ⟨m, hm⟩ := k2; exact DataW.trod_lt m _ _ _ hm
  obtain ⟨bs2, hl2, hc2, hm2, rd2⟩ : ∃ bs : List UInt8, bs.length = len2 ∧ len2 ≤ cap2 ∧ cap2 ≤ 140737488351232 ∧ Rd W a2 bs := by
    obtain ⟨fuel, hf⟩ := h2
    rcases open_ints Try.underlying23 Try.underlying5 (by kernel_rfl) hf with ⟨hcs, _⟩ | ⟨x, l, c, zs, hcs, _, hl, hm, hz, hx, hcell, hwz⟩
    · simp [Value.cells] at hcs
      obtain ⟨rfl, rfl, rfl⟩ := hcs
      exact ⟨[], rfl, by omega, by omega, .inl rfl⟩
    · simp [Value.cells] at hcs
      obtain ⟨rfl, rfl, rfl⟩ := hcs
      have hz' : zs.length = cap2 := by simpa using hz
      have hd : d2 = .slice (lits .u8 (zs.take len2)) (lits .u8 (zs.drop len2)) := congrArg Prod.fst hx
      have hb := sized_slice hsz (j := 2) (t := 23) (elems := lits .u8 (zs.take len2)) (spare := lits .u8 (zs.drop len2)) rfl (by rw [hd]; rfl) Try.underlying23
      have hb' : cap2 ≤ 140737488351232 := by
        rw [show Try.prog.bytesOf 5 = 1 from by kernel_rfl] at hb
        simp [lits, reachBytes] at hb; omega
      obtain ⟨bs, e1, e2⟩ := rd_of_ints hl hz' hcell hwz
      exact ⟨bs, e1, hl, hb', e2⟩
  clear hA0 hval0
  refine (walk_CrcLinear W a0 bs0 len0 cap0 hl0 hc0 hm0 rd0 a1 bs1 len1 cap1 hl1 hc1 hm1 rd1 a2 bs2 len2 cap2 hl2 hc2 hm2 rd2).mono fun e W' ⟨he, bel⟩ => ?_
  subst he
  exact ⟨_, rfl, _, _, _, [], _, [], hW', trodAll_mk1 (shut_bool Try.underlying4 _), (trodAll_cons_mk (Below.trod laidOut (by kernel_rfl) (of_decide_eq_true (by kernel_rfl)) k0 bel lt0) (trodAll_cons_mk (Below.trod laidOut (by kernel_rfl) (of_decide_eq_true (by kernel_rfl)) k1 bel lt1) (trodAll_cons_mk (Below.trod laidOut (by kernel_rfl) (of_decide_eq_true (by kernel_rfl)) k2 bel lt2) trodAll_mk0))), rfl, bel.frame _, fun h => by cases h⟩
theorem over : Rows.crcLinearRow.holds Try.pinned (OpenSpec.ofChange Rows.crcLinearSpec) :=
  OpenClaim.holds_of_wide 8 Try.f8 rfl rfl rfl rfl rfl rfl rfl ⟨rfl, rfl, rfl, rfl, rfl⟩ rfl rfl rfl rfl rfl (by kernel_rfl) Try.func8 (by kernel_rfl)
    (of_decide_eq_true (by kernel_rfl)) (by unfold Func.isWrapper; first | (rw [if_pos (by decide +kernel)]; kernel_rfl) | (rw [if_neg (by decide +kernel)]; exact ⟨rfl, rfl⟩))
    (fun os started H enc _ => lifted os started H enc)
end crcLinear
/-- THE STATEMENT. -/
theorem crcLinear_holds : Rows.CrcLinearSaid := crcLinear.over
#print axioms crcLinear_holds
end Go.Proofs.Ytkljekjgliebdaa
