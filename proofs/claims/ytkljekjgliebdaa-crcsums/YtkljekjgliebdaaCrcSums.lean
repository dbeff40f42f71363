/-
  Sums, the table, and what is sealed and opened are as the document's own answers tell them: for every start and all bytes the call of the law answers true, and all arguments read behind it as they read before. No condition.
-/
import Derived.Test.YtkljekjgliebdaaSml
import Derived.Test.YtkljekjgliebdaaRef
namespace Go.Proofs.Ytkljekjgliebdaa
open Go.RowKit Go.ChangeShapes Go.WideShapes Go.ChangeAt
theorem rd_pref {w : World} {g : Nat} {t : TypeId} {bs : List UInt8} {Z : List Value} (h : Blk w g t (bs.map Bv ++ Z).toArray) : Rd w (some ⟨g, 0, none⟩) bs := by
  refine .inr ⟨g, 0, rfl, h.lt, fun i hi => ?_⟩
  rw [Nat.zero_add, h.cell i]
  simp [List.getElem?_append_left, hi, Bv]
theorem table_eq (w : World) : (binOp .eql 28 (.agg (tabTo 256)) (.agg (tabTo 256))).run Try.prog w = .ok (.bool true) w := by kernel_rfl
theorem sums_out (w : World) (n : Nat) (A C : Option Addr) (len cap len2 cap2 : Nat) (h : 1000 < len ∨ 1000 < len2) :
    Calls Try.prog 3 #[.int .u32 (n : Int), .slice A len cap, .slice C len2 cap2] w fun e w' => e = .returned (.bool true) ∧ Below w.heap.size w w' := by
  go_enter Try.func3, Try.ntmps3
  go_wp2_with fail
  refine (small_any _).mono ?_
  rintro e w1 ⟨rfl, hb1⟩
  by_cases h1 : (1000 : Int) < (len : Int)
  · have hd1 : decide ((1000 : Int) < (len : Int)) = true := by simpa using h1
    go_wp2_with fail
    go_ret
    exact ⟨rfl, hb1⟩
  · have hd1 : decide ((1000 : Int) < (len : Int)) = false := by simpa using h1
    have hd3 : decide ((1000 : Int) < (len2 : Int)) = true := by simp; omega
    go_wp2_with fail
    go_ret
    exact ⟨rfl, hb1⟩
set_option maxRecDepth 100000 in
set_option maxHeartbeats 1000000 in
theorem sums_in (w : World) (n : Nat) (hn : n < 4294967296) (A C : Option Addr) (bs cs : List UInt8) (len cap len2 cap2 : Nat) (hl : bs.length = len) (hm : len ≤ 1000) (rd : Rd w A bs)
    (hl2 : cs.length = len2) (hc2 : len2 ≤ cap2) (hm2 : len2 ≤ 1000) (hcap2 : cap2 ≤ 140737488351232) (rd2 : Rd w C cs) :
    Calls Try.prog 3 #[.int .u32 (n : Int), .slice A len cap, .slice C len2 cap2] w fun e w' => e = .returned (.bool true) ∧ Below w.heap.size w w' := by
  have HL := Lib.hid hl
  have HL2 := Lib.hid hl2
  clear hl hl2
  have hd1 : decide ((1000 : Int) < (len : Int)) = false := by simp; omega
  have hd2 : decide ((1000 : Int) < (len2 : Int)) = false := by simp; omega
  obtain ⟨i0, hi0, hz0, hz1, hz2⟩ := info_parts byte_info
  have hmk := fun W => run_make (P := Try.prog) W 23 5 i0 _ Try.underlying23 hi0 hz0 .i64 .i64 len (len + 8) (by omega) (by omega) (by rw [hz2]; omega) (by omega)
  obtain ⟨Z, hZ⟩ : ∃ Z : List Value, Z = (madeCells #[Value.int IntKind.u8 0] (len + 8)).toList := ⟨_, rfl⟩
  have HZ := Lib.hid hZ
  clear hZ
  have HZl : Hid (Z.length = len + 8) := by rw [Hid, HZ.out]; simp [size_madeCells]
  have HM : Hid (bs.length = Nat.min len len) := by
    show _ = min _ _
    rw [HL.out]; omega
  go_enter Try.func3, Try.ntmps3
  go_wp2_with fail
  refine (small_any _).mono ?_
  rintro e w1 ⟨rfl, hb1⟩
  have hr1 : ∀ o : Obj, Rd (w1.alloc o) A bs := fun o => rd.below (hb1.alloc hb1.size o)
  go_wp2_with (refine wpList_copy_rd rfl (.tmp 32) (.tmp 33) 23 23 rfl 5 Try.underlying23 (by kernel_rfl) w1.heap.size len (len + 8) A len cap (by rfl) (by rfl) bs (hr1 _) HM.out Z 5 (by rw [HZ.out]; exact heap_alloc_new _ _) (by rw [HZl.out, HL.out]; omega) ?_; intro w2 hB2 hb2')
  have hb2 := hb2' w.heap.size w (hb1.alloc hb1.size _) hb1.size
  clear hb2'
  have hlt2 := hB2.lt
  have hg1 := hb1.size
  refine (seal_at _ bs _ (len + 4) _ HL.out rfl (by omega) _ (rd_pref hB2)).mono ?_
  rintro e w3 ⟨g3, rfl, hg3, hb3o, hB3⟩
  have hb3 := below_next hb2 (Nat.le_refl _) hb3o
  go_wp2_with fail
  have hS : Below w.heap.size w w3.drew ∧ Sem.run Try.prog (convert 23 9 (.slice (some ⟨g3, 0, none⟩) (len + 4) (len + 4))) w3.drew = .ok (.string ⟨(Crc.shut bs).toArray⟩) w3.drew := ⟨hb3.drew, run_str (P := Try.prog) w3.drew _ _ _ _ (show Rd w3.drew _ (Crc.shut bs) from hB3.rd) (by rw [Crc.shut_length, HL.out]) 23 5 9 Try.underlying23 Try.underlying5 Try.underlying9⟩
  refine wp_region_held_drew (S := fun w' => Below w.heap.size w w' ∧ Sem.run Try.prog (convert 23 9 (.slice (some ⟨g3, 0, none⟩) (len + 4) (len + 4))) w' = .ok (.string ⟨(Crc.shut bs).toArray⟩) w') (by kernel_rfl) hS (fun _ => ?_)
  refine wpAnyH_yes (i := 0) (d := 37) (v := ?_) rfl rfl (by kernel_rfl) (by kernel_rfl) (by kernel_rfl) (fun _ _ _ h => h) (by rfl) ?_ hS ?_
  rotate_left
  · intro w' hSw; go_simp <;> with_reducible rfl
  simp only [Act.put, List.setIfInBounds_toArray, List.set_cons_zero, List.set_cons_succ]
  refine wpAnyH_yes (i := 1) (d := 38) (v := ?_) rfl rfl (by kernel_rfl) (by kernel_rfl) (by kernel_rfl) (fun _ _ _ h => h) (by rfl) ?_ hS ?_
  rotate_left
  · intro w' hSw; go_simp <;> with_reducible rfl
  simp only [Act.put, List.setIfInBounds_toArray, List.set_cons_zero, List.set_cons_succ]
  refine wpAnyH_yes (i := 2) (d := 39) (v := ?_) rfl rfl (by kernel_rfl) (by kernel_rfl) (by kernel_rfl) (fun _ _ _ h => h) (by rfl) ?_ hS ?_
  rotate_left
  · intro w' hSw; go_simp <;> with_reducible rfl
  simp only [Act.put, List.setIfInBounds_toArray, List.set_cons_zero, List.set_cons_succ]
  refine wpAnyH_one (i := 3) (by kernel_rfl) rfl (by rfl) (fun K hK => ?_)
  go_simp
  with_reducible refine (rseal_any _ bs _ _ HL.out (by omega) _ (rd.below hS.1)).mono ?_
  rintro e w5 ⟨B5, c5, rfl, hb5, hr5⟩
  have hB2' := Blk.below (w := w3.drew) (hB2.below hb3o.drew hlt2) hb5 (Nat.lt_of_lt_of_le hlt2 hb3o.size)
  have hB3' := Blk.below (w := w3.drew) hB3 hb5 hB3.lt
  replace hb5 := below_next hS.1 (Nat.le_refl _) hb5
  have hS5 : Below w.heap.size w w5 ∧ Sem.run Try.prog (convert 23 9 (.slice (some ⟨g3, 0, none⟩) (len + 4) (len + 4))) w5 = .ok (.string ⟨(Crc.shut bs).toArray⟩) w5 := ⟨hb5, run_str (P := Try.prog) _ _ _ _ _ hB3'.rd (by rw [Crc.shut_length, HL.out]) 23 5 9 Try.underlying23 Try.underlying5 Try.underlying9⟩
  have hst5 := run_str (P := Try.prog) w5 _ _ _ c5 hr5 (by rw [Crc.shut_length, HL.out]) 23 5 9 Try.underlying23 Try.underlying5 Try.underlying9
  go_wp2_with fail
  refine hK.out _ _ hS5 ?_
  refine wpAnyH_one (i := 4) (by kernel_rfl) rfl (by rfl) (fun K hK1 => ?_)
  go_simp
  refine hK1.out _ _ hS5 ?_
  refine wpAnyH_yes (i := 5) (d := 42) (v := ?_) rfl rfl (by kernel_rfl) (by kernel_rfl) (by kernel_rfl) (fun _ _ _ h => h) (by rfl) ?_ hS5 ?_
  rotate_left
  · intro w' hSw; go_simp <;> with_reducible rfl
  simp only [Act.put, List.setIfInBounds_toArray, List.set_cons_zero, List.set_cons_succ]
  refine wpAnyH_yes (i := 6) (d := 10) (v := ?_) rfl rfl (by kernel_rfl) (by kernel_rfl) (by kernel_rfl) (fun _ _ _ h => h) (by rfl) ?_ hS5 ?_
  rotate_left
  · intro w' hSw; go_simp <;> with_reducible rfl
  simp only [Act.put, List.setIfInBounds_toArray, List.set_cons_zero, List.set_cons_succ]
  refine wpAnyH_done (by kernel_rfl) ?_ _
  clear hS hst5
  have hne23 : w1.heap.size ≠ g3 := by omega
  have hgg : w.heap.size ≤ g3 := by omega
  clear hB2 hB3 hb3o hb3 hb2 hr1 hmk
  obtain ⟨h5, _⟩ := hS5
  go_wp2_with fail
  go_loopw [11] (fun i wr => ∃ k : Nat, k ≤ len + 4 ∧ i = .int .i64 k ∧ Below w.heap.size w wr ∧ Blk wr w1.heap.size 5 (bs.map Bv ++ Z.drop bs.length).toArray ∧ ∃ L : List UInt8, L.length = len + 4 ∧ Blk wr g3 5 (L.map Bv).toArray) (fun i _ => len + 4 - (intOf i).toNat)
  case atStart => exact ⟨0, by omega, rfl, h5, hB2', _, by rw [Crc.shut_length, HL.out], hB3'⟩
  case round =>
    obtain ⟨k, hk, rfl, hbw, hBs, L, hLl, hB⟩ := hrel
    have HLl := Lib.hid hLl
    clear hLl hB2' hB3' h5
    by_cases hlt : k < len + 4
    · obtain ⟨x, hx⟩ : ∃ x, L[k]? = some x := ⟨_, List.getElem?_eq_getElem (by rw [HLl.out]; exact hlt)⟩
      have hcx := blk_byte hB hx
      have hfx := hB.frozen k
      clear hx
      go_wp2_with fail
      go_roundw
      case rel =>
        refine ⟨k + 1, by omega, by go_num, hbw.setCell hgg _, hBs.far hne23 _, L.set k 7, by rw [List.length_set]; exact HLl.out, ?_⟩
        have := hB.put k (Bv 7)
        rw [List.setIfInBounds_toArray, ← List.map_set] at this
        exact this
      case measure => simp [intOf]; omega
    · clear hB
      have hrs := rd_pref hBs
      have hltS := hBs.lt
      go_wp2_with fail
      cases hg : Crc.good cs
      · refine (open_none _ cs _ _ HL2.out hc2 hcap2 _ (rd2.below hbw) hg).mono ?_
        rintro e w6 ⟨rfl, hb6o⟩
        have hb6 := below_next hbw (Nat.le_refl _) hb6o
        go_wp2_with fail
        refine (ropen_none _ cs _ _ HL2.out hc2 hcap2 _ (rd2.below hb6) hg).mono ?_
        rintro e w7 ⟨rfl, hb7o⟩
        have hb7 := below_next hb6 (Nat.le_refl _) hb7o
        have hb7s := below_next hb6o (Nat.le_refl _) hb7o
        have hsp := run_str (P := Try.prog) w7 _ bs len (len + 8) (hrs.below hb7s) HL.out 23 5 9 Try.underlying23 Try.underlying5 Try.underlying9
        have hsb := run_str (P := Try.prog) w7 A bs len cap (rd.below hb7) HL.out 23 5 9 Try.underlying23 Try.underlying5 Try.underlying9
        go_wp2_with fail
        refine (table_any _).mono ?_
        rintro e w8 ⟨rfl, hb8o⟩
        have hb8 := below_next hb7 (Nat.le_refl _) hb8o
        clear hsp hsb
        go_wp2_with fail
        refine (rtable_any _).mono ?_
        rintro e w9 ⟨rfl, hb9o⟩
        have hb9 := below_next hb8 (Nat.le_refl _) hb9o
        have hte := table_eq
        go_wp2_with fail
        refine (sum_at _ bs _ _ HL.out (by unfold maxLen; omega) _ (rd.below hb9)).mono ?_
        rintro e w10 ⟨rfl, hb10o⟩
        have hb10 := below_next hb9 (Nat.le_refl _) hb10o
        clear hte
        go_wp2_with fail
        refine (rsum_at _ bs _ _ HL.out (by unfold maxLen; omega) _ (rd.below hb10)).mono ?_
        rintro e w10' ⟨rfl, rfl⟩
        go_wp2_with fail
        refine (add_at _ n rfl _ bs _ _ hn HL.out (by omega) _ (rd.below hb10)).mono ?_
        rintro e w11 ⟨rfl, hb11o⟩
        have hb11 := below_next hb10 (Nat.le_refl _) hb11o
        go_wp2_with fail
        refine (radd_at _ n rfl _ bs _ _ hn HL.out (by omega) _ (rd.below hb11)).mono ?_
        rintro e w11' ⟨rfl, rfl⟩
        have hb711 : Below w7.heap.size w7 w11 := below_next (below_next (below_next hb8o (Nat.le_refl _) hb9o) (Nat.le_refl _) hb10o) (Nat.le_refl _) hb11o
        have hsx := run_str (P := Try.prog) w11 none [] 0 0 (.inl rfl) rfl 23 5 9 Try.underlying23 Try.underlying5 Try.underlying9
        go_wp2_with fail
        go_ret
        exact ⟨rfl, hb11⟩
      · have h4 : 4 ≤ cs.length := by simp [Crc.good] at hg; exact hg.1
        obtain ⟨m, hm4⟩ : ∃ m, len2 = m + 4 := ⟨len2 - 4, by rw [HL2.out] at h4; omega⟩
        have HM4 := Lib.hid hm4
        clear hm4
        have HT : Hid ((cs.take m).length = m) := by rw [Hid, List.length_take, HL2.out]; have := HM4.out; omega
        clear h4
        refine (open_good _ cs _ m _ HL2.out HM4.out hc2 hcap2 _ (rd2.below hbw) hg).mono ?_
        rintro e w6 ⟨g6, rfl, hg6, hb6o, hB6⟩
        have hb6 := below_next hbw (Nat.le_refl _) hb6o
        go_wp2_with fail
        refine (ropen_good _ cs _ m _ HL2.out HM4.out hc2 hcap2 _ (rd2.below hb6) hg).mono ?_
        rintro e w7 ⟨B7, c7, rfl, hb7o, hr7⟩
        have hb7 := below_next hb6 (Nat.le_refl _) hb7o
        have hb7s := below_next hb6o (Nat.le_refl _) hb7o
        have hr6 := hB6.rd.below hb7o
        have hsp := run_str (P := Try.prog) w7 _ bs len (len + 8) (hrs.below hb7s) HL.out 23 5 9 Try.underlying23 Try.underlying5 Try.underlying9
        have hsb := run_str (P := Try.prog) w7 A bs len cap (rd.below hb7) HL.out 23 5 9 Try.underlying23 Try.underlying5 Try.underlying9
        go_wp2_with fail
        refine (table_any _).mono ?_
        rintro e w8 ⟨rfl, hb8o⟩
        have hb8 := below_next hb7 (Nat.le_refl _) hb8o
        clear hsp hsb
        go_wp2_with fail
        refine (rtable_any _).mono ?_
        rintro e w9 ⟨rfl, hb9o⟩
        have hb9 := below_next hb8 (Nat.le_refl _) hb9o
        have hte := table_eq
        go_wp2_with fail
        refine (sum_at _ bs _ _ HL.out (by unfold maxLen; omega) _ (rd.below hb9)).mono ?_
        rintro e w10 ⟨rfl, hb10o⟩
        have hb10 := below_next hb9 (Nat.le_refl _) hb10o
        clear hte
        go_wp2_with fail
        refine (rsum_at _ bs _ _ HL.out (by unfold maxLen; omega) _ (rd.below hb10)).mono ?_
        rintro e w10' ⟨rfl, rfl⟩
        go_wp2_with fail
        refine (add_at _ n rfl _ bs _ _ hn HL.out (by omega) _ (rd.below hb10)).mono ?_
        rintro e w11 ⟨rfl, hb11o⟩
        have hb11 := below_next hb10 (Nat.le_refl _) hb11o
        go_wp2_with fail
        refine (radd_at _ n rfl _ bs _ _ hn HL.out (by omega) _ (rd.below hb11)).mono ?_
        rintro e w11' ⟨rfl, rfl⟩
        have hb711 : Below w7.heap.size w7 w11 := below_next (below_next (below_next hb8o (Nat.le_refl _) hb9o) (Nat.le_refl _) hb10o) (Nat.le_refl _) hb11o
        have hsx := run_str (P := Try.prog) w11 _ _ m m (hr6.below hb711) HT.out 23 5 9 Try.underlying23 Try.underlying5 Try.underlying9
        have hsy := run_str (P := Try.prog) w11 _ _ m c7 (hr7.below hb711) HT.out 23 5 9 Try.underlying23 Try.underlying5 Try.underlying9
        go_wp2_with fail
        go_ret
        exact ⟨rfl, hb11⟩
theorem walk_CrcSums (w : World) (a0 : Int) (w0 : (Lit.int .u32 a0).wf = true) (a1 : Option Addr) (bs : List UInt8) (len cap : Nat) (hl : bs.length = len) (_hc : len ≤ cap) (_hm : cap ≤ 140737488351232) (rd : Rd w a1 bs)
    (a2 : Option Addr) (cs : List UInt8) (len2 cap2 : Nat) (hl2 : cs.length = len2) (hc2 : len2 ≤ cap2) (hm2 : cap2 ≤ 140737488351232) (rd2 : Rd w a2 cs) :
    Calls Try.prog 3 #[.int .u32 a0, .slice a1 len cap, .slice a2 len2 cap2] w fun e w' => e = .returned (.bool true) ∧ Below w.heap.size w w' := by
  have hb := bounds_u32 w0
  obtain ⟨n, rfl⟩ := Int.eq_ofNat_of_zero_le hb.1
  by_cases h : 1000 < len ∨ 1000 < len2
  · exact sums_out w n a1 a2 len cap len2 cap2 h
  · exact sums_in w n (by omega) a1 a2 bs cs len cap len2 cap2 hl (by omega) rd hl2 hc2 (by omega) hm2 rd2

/-! ### The row's step. -/
namespace crcSums
theorem own : ownKnob Try.prog.godebug = none := by kernel_rfl
theorem laidOut : laidOutB Try.prog = true := by kernel_rfl
set_option linter.unusedVariables false in
set_option maxRecDepth 100000 in
theorem lifted (os : Os) (started : os.Started) (H : Type) (enc : TypeId × Value → H) :
    ReturnsInHanded {} Try.checked os 3 .any (Rows.crcSumsSpec.pre6 enc Try.prog Try.f3 Rows.crcSumsRow.domain false) (Rows.crcSumsSpec.post enc Try.prog Try.f3 false true false false) := by
  refine returnsInHanded_of_change_sized (C := Try.checked) own started (by kernel_rfl) Try.func3
    (ChangeSpec.witness6 (enc := enc) (C := Try.checked) false ⟨#[], #[.int .u32 0, .slice none 0 0, .slice none 0 0], []⟩ 8 (by kernel_rfl) (by kernel_rfl) (by kernel_rfl) (by kernel_rfl)) ?_
  intro W base args ds gs before hval0 hW hcnd hsz0 _
  have hval : ∀ (j : Nat) t v, Try.f3.params[j]? = some t → args[j]? = some v → Value.okWide Try.prog W .any base t v := hval0
  have hsz : (DataW.weightsEach Try.prog (Try.f3.params.toList ++ Rows.crcSumsSpec.plain.varTypes Try.prog) (ds ++ gs)).all (· ≤ reachBytes) = true := hsz0
  have hW' := hW
  obtain ⟨p, q, hA0, hV, rfl, hfz, hnd⟩ := hW
  have hA : DataW.TrodAll enc Try.prog W 0 (fun _ => true) true Try.f3.params.toList args.toList ds p := hA0
  rw [Try.params3] at hA hval hsz
  obtain ⟨v0, vs0, d0, ds0, p0, q0, hargs, rfl, rfl, h0, r0⟩ := trodAll_cons hA
  obtain ⟨v1, vs1, d1, ds1, p1, q1, rfl, rfl, rfl, h1, r1⟩ := trodAll_cons r0
  obtain ⟨v2, vs2, d2, ds2, p2, q2, rfl, rfl, rfl, h2, r2⟩ := trodAll_cons r1
  obtain ⟨rfl, rfl, rfl⟩ := trodAll_nil r2
  obtain rfl : args = #[v0, v1, v2] := by cases args; simp_all
  obtain ⟨rfl, rfl⟩ := trodVars_none hV
  obtain ⟨a0, rfl, rfl, rfl, w0⟩ := open_int Try.underlying22 (hval 0 22 v0 rfl rfl) h0
  obtain ⟨a1, len1, cap1, rfl⟩ := okWide_slice Try.underlying23 (hval 1 23 v1 rfl rfl)
  have k1 := h1
  have lt1 : ∀ x ∈ p1, x.block < W.heap.size := by obtain ⟨m, hm⟩ := k1; exact DataW.trod_lt m _ _ _ hm
  obtain ⟨bs1, hl1, hc1, hm1, rd1⟩ : ∃ bs : List UInt8, bs.length = len1 ∧ len1 ≤ cap1 ∧ cap1 ≤ 140737488351232 ∧ Rd W a1 bs := by
    obtain ⟨fuel, hf⟩ := h1
    rcases open_ints Try.underlying23 Try.underlying5 (by kernel_rfl) hf with ⟨hcs, _⟩ | ⟨x, l, c, zs, hcs, _, hl, hm, hz, hx, hcell, hwz⟩
    · simp [Value.cells] at hcs
      obtain ⟨rfl, rfl, rfl⟩ := hcs
      exact ⟨[], rfl, by omega, by omega, .inl rfl⟩
    · simp [Value.cells] at hcs
      obtain ⟨rfl, rfl, rfl⟩ := hcs
      have hz' : zs.length = cap1 := by simpa using hz
      have hd : d1 = .slice (lits .u8 (zs.take len1)) (lits .u8 (zs.drop len1)) := congrArg Prod.fst hx
      have hb := sized_slice hsz (j := 1) (t := 23) (elems := lits .u8 (zs.take len1)) (spare := lits .u8 (zs.drop len1)) rfl (by rw [hd]; rfl) Try.underlying23
      have hb' : cap1 ≤ 140737488351232 := by
        rw [show Try.prog.bytesOf 5 = 1 from by kernel_rfl] at hb
        simp [lits, reachBytes] at hb; omega
      obtain ⟨bs, e1, e2⟩ := rd_of_ints hl hz' hcell hwz
      exact ⟨bs, e1, hl, hb', e2⟩
  obtain ⟨a2, len2, cap2, rfl⟩ := okWide_slice Try.underlying23 (hval 2 23 v2 rfl rfl)
  have k2 := h2
  have lt2 : ∀ x ∈ p2, x.block < W.heap.size := by obtain ⟨m, hm⟩ := k2; exact DataW.trod_lt m _ _ _ hm
  obtain ⟨bs2, hl2, hc2, hm2, rd2⟩ : ∃ bs : List UInt8, bs.length = len2 ∧ len2 ≤ cap2 ∧ cap2 ≤ 140737488351232 ∧ Rd W a2 bs := by
    obtain ⟨fuel, hf⟩ := h2
    rcases open_ints Try.underlying23 Try.underlying5 (by kernel_rfl) hf with ⟨hcs, _⟩ | ⟨x, l, c, zs, hcs, _, hl, hm, hz, hx, hcell, hwz⟩
    · simp [Value.cells] at hcs
      obtain ⟨rfl, rfl, rfl⟩ := hcs
      exact ⟨[], rfl, by omega, by omega, .inl rfl⟩
    · simp [Value.cells] at hcs
      obtain ⟨rfl, rfl, rfl⟩ := hcs
      have hz' : zs.length = cap2 := by simpa using hz
      have hd : d2 = .slice (lits .u8 (zs.take len2)) (lits .u8 (zs.drop len2)) := congrArg Prod.fst hx
      have hb := sized_slice hsz (j := 2) (t := 23) (elems := lits .u8 (zs.take len2)) (spare := lits .u8 (zs.drop len2)) rfl (by rw [hd]; rfl) Try.underlying23
      have hb' : cap2 ≤ 140737488351232 := by
        rw [show Try.prog.bytesOf 5 = 1 from by kernel_rfl] at hb
        simp [lits, reachBytes] at hb; omega
      obtain ⟨bs, e1, e2⟩ := rd_of_ints hl hz' hcell hwz
      exact ⟨bs, e1, hl, hb', e2⟩
  clear hA0 hval0
  refine (walk_CrcSums W a0 w0 a1 bs1 len1 cap1 hl1 hc1 hm1 rd1 a2 bs2 len2 cap2 hl2 hc2 hm2 rd2).mono fun e W' ⟨he, bel⟩ => ?_
  subst he
  exact ⟨_, rfl, _, _, _, [], _, [], hW', trodAll_mk1 (shut_bool Try.underlying4 _), (trodAll_cons_mk (shut_int Try.underlying22 w0) (trodAll_cons_mk (Below.trod laidOut (by kernel_rfl) (of_decide_eq_true (by kernel_rfl)) k1 bel lt1) (trodAll_cons_mk (Below.trod laidOut (by kernel_rfl) (of_decide_eq_true (by kernel_rfl)) k2 bel lt2) trodAll_mk0))), rfl, bel.frame _, fun h => by cases h⟩
theorem over : Rows.crcSumsRow.holds Try.pinned (OpenSpec.ofChange Rows.crcSumsSpec) :=
  OpenClaim.holds_of_wide 3 Try.f3 rfl rfl rfl rfl rfl rfl rfl ⟨rfl, rfl, rfl, rfl, rfl⟩ rfl rfl rfl rfl rfl (by kernel_rfl) Try.func3 (by kernel_rfl)
    (of_decide_eq_true (by kernel_rfl)) (by unfold Func.isWrapper; first | (rw [if_pos (by decide +kernel)]; kernel_rfl) | (rw [if_neg (by decide +kernel)]; exact ⟨rfl, rfl⟩))
    (fun os started H enc _ => lifted os started H enc)
end crcSums
/-- THE STATEMENT. -/
theorem crcSums_holds : Rows.CrcSumsSaid := crcSums.over
#print axioms crcSums_holds
end Go.Proofs.Ytkljekjgliebdaa
