/-
  Predicates are read, one behind the other, as the document's own answer reads them, and the error is the same: for all bytes and every number the call of the law answers true, and all arguments read behind it as they read before. No condition.
-/
import Derived.Test.YtcmjekchfgnbdaaPSml
import Derived.Test.YtcmjekchfgnbdaaPRefGet
import Derived.Test.YtcmjekchfgnbdaaPArgs
namespace Go.Proofs.Ytcmjekchfgnbdaa
open Go.RowKit Go.ChangeShapes Go.WideShapes Go.ChangeAt
set_option maxRecDepth 100000 in
theorem gets_out (w : World) (A : Option Addr) (bs : List UInt8) (len cap : Nat) (m : Int) (hn : bs.length = len) (hm : len ≤ 140737488355328) (rd : Rd w A bs) (hl : 300 < len ∨ m < 0 ∨ 20 < m) :
    Calls Try.prog 4 #[.slice A len cap, .int .i64 m] w fun e w' => e = .returned (.bool true) ∧ Below w.heap.size w w' := by
  have HN := Lib.hid hn
  clear hn
  go_enter Try.func4, Try.ntmps4
  go_wp2_with fail
  refine (small_any w).mono ?_
  rintro e w1 ⟨rfl, hb1⟩
  go_wp2_with fail
  refine (on_at A bs len cap HN.out (by omega) w1 (rd.below hb1)).mono ?_
  rintro e w2 ⟨gs, rfl, hgs, hb2, hs⟩
  have hsw : w.heap.size ≤ gs := Nat.le_trans hb1.size hgs
  have hbw := below_next hb1 (Nat.le_refl _) hb2
  clear hb1 hb2 hgs
  by_cases a1 : 300 < len
  · have q1 : decide ((300 : Int) < (len : Int)) = true := by simp; omega
    clear hl a1
    go_wp2_with fail
    go_ret
    exact ⟨rfl, hbw⟩
  · have q1 : decide ((300 : Int) < (len : Int)) = false := by simp; omega
    by_cases a2 : m < 0
    · have q2 : decide (m < 0) = true := by simpa using a2
      clear hl a1 a2
      go_wp2_with fail
      go_ret
      exact ⟨rfl, hbw⟩
    · have q2 : decide (m < 0) = false := by simpa using a2
      have q3 : decide (20 < m) = true := by simp; omega
      clear hl a1 a2
      go_wp2_with fail
      go_ret
      exact ⟨rfl, hbw⟩
/-- The two scans, one of the program, one of the document. -/
def Both (w0 w : World) (gs gx : Nat) : Prop := Below w0.heap.size w0 w ∧ ∃ st : Wire.St, st.fine ∧ Sc w gs 64 st ∧ Sc w gx 40 st
set_option maxRecDepth 100000 in
set_option maxHeartbeats 3200000 in
theorem gets_in (w : World) (A : Option Addr) (bs : List UInt8) (len cap : Nat) (m : Nat) (hn : bs.length = len) (hm : len ≤ 300) (hcap : len ≤ cap) (hcap2 : cap ≤ 140737488355328) (rd : Rd w A bs) (hm2 : m ≤ 20) :
    Calls Try.prog 4 #[.slice A len cap, .int .i64 (m : Int)] w fun e w' => e = .returned (.bool true) ∧ Below w.heap.size w w' := by
  have HN := Lib.hid hn
  clear hn
  go_enter Try.func4, Try.ntmps4
  go_wp2_with fail
  refine (small_any w).mono ?_
  rintro e w1 ⟨rfl, hb1⟩
  go_wp2_with fail
  refine (on_at A bs len cap HN.out (by omega) w1 (rd.below hb1)).mono ?_
  rintro e w2 ⟨gs, rfl, hgs, hb2, hs⟩
  have hsw : w.heap.size ≤ gs := Nat.le_trans hb1.size hgs
  have hbw := below_next hb1 (Nat.le_refl _) hb2
  clear hb1 hb2 hgs
  have q1 : decide ((300 : Int) < (len : Int)) = false := by simp; omega
  have q2 : decide ((m : Int) < 0) = false := by simp
  have q3 : decide (20 < (m : Int)) = false := by simp; omega
  go_wp2_with fail
  have hBx : Blk (w2.alloc (.cells #[.slice A len cap, .int .i64 0] 40)) w2.heap.size 40 #[.slice A len cap, .int .i64 0] := Blk.new w2 _ _
  have hb3 : Below w2.heap.size w2 (w2.alloc (.cells #[.slice A len cap, .int .i64 0] 40)) := (Below.refl _ _).alloc (Nat.le_refl _) _
  have hxw : w.heap.size ≤ w2.heap.size := hbw.size
  have hne : gs ≠ w2.heap.size := by have := hs.lt; omega
  have h0 : Both w (w2.alloc (.cells #[.slice A len cap, .int .i64 0] 40)) gs w2.heap.size :=
    ⟨below_next hbw (Nat.le_refl _) hb3, ⟨bs, 0⟩, fun h => absurd rfl h, hs.below hb3, ⟨A, len, cap, hBx, HN.out, hcap, hcap2, (rd.below hbw).below hb3⟩⟩
  generalize w2.alloc (.cells #[.slice A len cap, .int .i64 0] 40) = w3 at *
  generalize w2.heap.size = gx at *
  clear q1 q2 q3 hBx hb3 hs hbw
  go_loopw [8] (fun x wr => ∃ q : Nat, q ≤ m ∧ x = .int .i64 (q : Int) ∧ Both w wr gs gx) (fun x _ => m - (intOf x).toNat)
  case atStart => exact ⟨0, by omega, rfl, h0⟩
  case round =>
    clear h0
    obtain ⟨q, hq, rfl, hbr, st, hfi, hs, hx⟩ := hrel
    by_cases hlt : q < m
    · obtain ⟨N, hN'⟩ : ∃ N, Preds.getN st = N := ⟨_, rfl⟩
      obtain ⟨O, hO⟩ : ∃ O, Preds.getO st = O := ⟨_, rfl⟩
      obtain ⟨K, hK⟩ : ∃ K, Preds.getK st = K := ⟨_, rfl⟩
      obtain ⟨I, hI⟩ : ∃ I, Preds.getI st = I := ⟨_, rfl⟩
      obtain ⟨Tx, hTx⟩ : ∃ Tx, Preds.getT st = Tx := ⟨_, rfl⟩
      have hfi' := Preds.getS_fine hfi
      obtain ⟨s', hs'⟩ : ∃ s', Preds.getS st = s' := ⟨_, rfl⟩
      rw [hs'] at hfi'
      have HNm := Lib.hid hN'
      have HO := Lib.hid hO
      have HK := Lib.hid hK
      have HI := Lib.hid hI
      have HT := Lib.hid hTx
      have HS := Lib.hid hs'
      clear hN' hO hK hI hTx hs'
      go_wp2_with fail
      replace hbr := hbr.drew
      replace hs := hs.drew
      replace hx := hx.drew
      refine wp_region_held_drew (S := fun w' => Below w.heap.size w w') (by kernel_rfl) hbr (fun _ => ?_)
      refine wpAnyH_yes (i := 0) (d := 40) (v := ?_) rfl rfl (by kernel_rfl) (by kernel_rfl) (by kernel_rfl) (fun _ _ _ h => h) (by rfl) ?_ hbr ?_
      rotate_left
      · intro w' hSw; go_simp <;> with_reducible rfl
      simp only [Act.put, List.setIfInBounds_toArray, List.set_cons_zero, List.set_cons_succ]
      refine wpAnyH_yes (i := 2) (d := 42) (v := ?_) rfl rfl (by kernel_rfl) (by kernel_rfl) (by kernel_rfl) (fun _ _ _ h => h) (by rfl) ?_ hbr ?_
      rotate_left
      · intro w' hSw; go_simp <;> with_reducible rfl
      simp only [Act.put, List.setIfInBounds_toArray, List.set_cons_zero, List.set_cons_succ]
      refine wpAnyH_one (i := 1) (by kernel_rfl) rfl (by rfl) (fun Kx hK1 => ?_)
      go_simp
      with_reducible refine (pget_at _ gs st hs N O K I Tx s' HNm.out HO.out HK.out HI.out HT.out HS.out).mono ?_
      rintro e w4 ⟨rfl, hs4, hT4⟩
      have hb4 := hT4.below hbr hbr.size hsw
      have hx4 := hT4.sc hs hx hne.symm
      clear hs hx hT4
      go_wp2_with fail
      refine hK1.out _ _ hb4 ?_
      refine wpAnyH_one (i := 3) (by kernel_rfl) rfl (by rfl) (fun Kx hK2 => ?_)
      go_simp
      with_reducible refine (rpget_at _ gx st hx4 hfi N O K I Tx s' HNm.out HO.out HK.out HI.out HT.out HS.out).mono ?_
      rintro e w5 ⟨rfl, hx5, hT5⟩
      have hb5 := hT5.below hb4 hb4.size hxw
      have hs5 := hT5.sc hx4 hs4 hne
      clear hs4 hx4 hT5
      go_wp2_with fail
      refine hK2.out _ _ hb5 ?_
      have hx6 := hx5
      obtain ⟨A', n', cap', hG, hl', hG'⟩ := hx5
      obtain ⟨z, hz⟩ : ∃ z, s'.err = z := ⟨_, rfl⟩
      rw [hz] at hG
      have HZ := Lib.hid hz
      have HL' := Lib.hid hl'
      clear hz hl' hG'
      have hS1 : Below w.heap.size w w5 ∧ w5.cell? ⟨gx, 0, none⟩ = some (.slice A' n' cap') ∧ w5.cell? ⟨gx, 1, none⟩ = some (.int .i64 z) := ⟨hb5, hG.cell 0, hG.cell 1⟩
      refine wpAnyH_more (S' := fun w' => Below w.heap.size w w' ∧ w'.cell? ⟨gx, 0, none⟩ = some (.slice A' n' cap') ∧ w'.cell? ⟨gx, 1, none⟩ = some (.int .i64 z)) (fun w' h => h.1) _ _ _ _ ?_
      refine wpAnyH_yes (i := 4) (d := 44) (v := ?_) rfl rfl (by kernel_rfl) (by kernel_rfl) (by kernel_rfl) (fun _ _ _ h => h) (by rfl) ?_ hS1 ?_
      rotate_left
      · intro w' hSw; go_simp <;> with_reducible rfl
      simp only [Act.put, List.setIfInBounds_toArray, List.set_cons_zero, List.set_cons_succ]
      refine wpAnyH_yes (i := 5) (d := 45) (v := ?_) rfl rfl (by kernel_rfl) (by kernel_rfl) (by kernel_rfl) (fun _ _ _ h => h) (by rfl) ?_ hS1 ?_
      rotate_left
      · intro w' hSw; go_simp <;> with_reducible rfl
      simp only [Act.put, List.setIfInBounds_toArray, List.set_cons_zero, List.set_cons_succ]
      refine wpAnyH_yes (i := 6) (d := 46) (v := ?_) rfl rfl (by kernel_rfl) (by kernel_rfl) (by kernel_rfl) (fun _ _ _ h => h) (by rfl) ?_ hS1 ?_
      rotate_left
      · intro w' hSw; go_simp <;> with_reducible rfl
      simp only [Act.put, List.setIfInBounds_toArray, List.set_cons_zero, List.set_cons_succ]
      refine wpAnyH_yes (i := 8) (d := 48) (v := ?_) rfl rfl (by kernel_rfl) (by kernel_rfl) (by kernel_rfl) (fun _ _ _ h => h) (by rfl) ?_ hS1 ?_
      rotate_left
      · intro w' hSw; go_simp <;> with_reducible rfl
      simp only [Act.put, List.setIfInBounds_toArray, List.set_cons_zero, List.set_cons_succ]
      refine wpAnyH_yes (i := 9) (d := 49) (v := ?_) rfl rfl (by kernel_rfl) (by kernel_rfl) (by kernel_rfl) (fun _ _ _ h => h) (by rfl) ?_ hS1 ?_
      rotate_left
      · intro w' hSw; go_simp <;> with_reducible rfl
      simp only [Act.put, List.setIfInBounds_toArray, List.set_cons_zero, List.set_cons_succ]
      refine wpAnyH_yes (i := 10) (d := 50) (v := ?_) rfl rfl (by kernel_rfl) (by kernel_rfl) (by kernel_rfl) (fun _ _ _ h => h) (by rfl) ?_ hS1 ?_
      rotate_left
      · intro w' hSw; go_simp <;> with_reducible rfl
      simp only [Act.put, List.setIfInBounds_toArray, List.set_cons_zero, List.set_cons_succ]
      refine wpAnyH_yes (i := 11) (d := 51) (v := ?_) rfl rfl (by kernel_rfl) (by kernel_rfl) (by kernel_rfl) (fun _ _ _ h => h) (by rfl) ?_ hS1 ?_
      rotate_left
      · intro w' hSw; go_simp <;> with_reducible rfl
      simp only [Act.put, List.setIfInBounds_toArray, List.set_cons_zero, List.set_cons_succ]
      refine wpAnyH_yes (i := 12) (d := 52) (v := ?_) rfl rfl (by kernel_rfl) (by kernel_rfl) (by kernel_rfl) (fun _ _ _ h => h) (by rfl) ?_ hS1 ?_
      rotate_left
      · intro w' hSw; go_simp <;> with_reducible rfl
      simp only [Act.put, List.setIfInBounds_toArray, List.set_cons_zero, List.set_cons_succ]
      refine wpAnyH_one (i := 7) (by kernel_rfl) rfl (by rfl) (fun Kx hK3 => ?_)
      go_simp
      with_reducible refine (left_at w5 gs s' hs5 n' HL'.out).mono ?_
      rintro e w6 ⟨rfl, rfl⟩
      go_wp2_with fail
      refine hK3.out _ _ hS1 ?_
      refine wpAnyH_yes (i := 13) (d := 53) (v := ?_) rfl rfl (by kernel_rfl) (by kernel_rfl) (by kernel_rfl) (fun _ _ _ h => h) (by rfl) ?_ hS1 ?_
      rotate_left
      · intro w' hSw; go_simp <;> with_reducible rfl
      simp only [Act.put, List.setIfInBounds_toArray, List.set_cons_zero, List.set_cons_succ]
      refine wpAnyH_yes (i := 14) (d := 54) (v := ?_) rfl rfl (by kernel_rfl) (by kernel_rfl) (by kernel_rfl) (fun _ _ _ h => h) (by rfl) ?_ hS1 ?_
      rotate_left
      · intro w' hSw; go_simp <;> with_reducible rfl
      simp only [Act.put, List.setIfInBounds_toArray, List.set_cons_zero, List.set_cons_succ]
      refine wpAnyH_yes (i := 15) (d := 55) (v := ?_) rfl rfl (by kernel_rfl) (by kernel_rfl) (by kernel_rfl) (fun _ _ _ h => h) (by rfl) ?_ hS1 ?_
      rotate_left
      · intro w' hSw; go_simp <;> with_reducible rfl
      simp only [Act.put, List.setIfInBounds_toArray, List.set_cons_zero, List.set_cons_succ]
      refine wpAnyH_yes (i := 16) (d := 56) (v := ?_) rfl rfl (by kernel_rfl) (by kernel_rfl) (by kernel_rfl) (fun _ _ _ h => h) (by rfl) ?_ hS1 ?_
      rotate_left
      · intro w' hSw; go_simp <;> with_reducible rfl
      simp only [Act.put, List.setIfInBounds_toArray, List.set_cons_zero, List.set_cons_succ]
      refine wpAnyH_yes (i := 18) (d := 58) (v := ?_) rfl rfl (by kernel_rfl) (by kernel_rfl) (by kernel_rfl) (fun _ _ _ h => h) (by rfl) ?_ hS1 ?_
      rotate_left
      · intro w' hSw; go_simp <;> with_reducible rfl
      simp only [Act.put, List.setIfInBounds_toArray, List.set_cons_zero, List.set_cons_succ]
      refine wpAnyH_yes (i := 19) (d := 59) (v := ?_) rfl rfl (by kernel_rfl) (by kernel_rfl) (by kernel_rfl) (fun _ _ _ h => h) (by rfl) ?_ hS1 ?_
      rotate_left
      · intro w' hSw; go_simp <;> with_reducible rfl
      simp only [Act.put, List.setIfInBounds_toArray, List.set_cons_zero, List.set_cons_succ]
      refine wpAnyH_yes (i := 20) (d := 60) (v := ?_) rfl rfl (by kernel_rfl) (by kernel_rfl) (by kernel_rfl) (fun _ _ _ h => h) (by rfl) ?_ hS1 ?_
      rotate_left
      · intro w' hSw; go_simp <;> with_reducible rfl
      simp only [Act.put, List.setIfInBounds_toArray, List.set_cons_zero, List.set_cons_succ]
      refine wpAnyH_yes (i := 21) (d := 61) (v := ?_) rfl rfl (by kernel_rfl) (by kernel_rfl) (by kernel_rfl) (fun _ _ _ h => h) (by rfl) ?_ hS1 ?_
      rotate_left
      · intro w' hSw; go_simp <;> with_reducible rfl
      simp only [Act.put, List.setIfInBounds_toArray, List.set_cons_zero, List.set_cons_succ]
      refine wpAnyH_one (i := 17) (by kernel_rfl) rfl (by rfl) (fun Kx hK4 => ?_)
      go_simp
      with_reducible refine (err_at w5 gs s' hs5 z HZ.out).mono ?_
      rintro e w6 ⟨rfl, rfl⟩
      go_wp2_with fail
      refine hK4.out _ _ hS1 ?_
      refine wpAnyH_yes (i := 22) (d := 62) (v := ?_) rfl rfl (by kernel_rfl) (by kernel_rfl) (by kernel_rfl) (fun _ _ _ h => h) (by rfl) ?_ hS1 ?_
      rotate_left
      · intro w' hSw; go_simp <;> with_reducible rfl
      simp only [Act.put, List.setIfInBounds_toArray, List.set_cons_zero, List.set_cons_succ]
      refine wpAnyH_yes (i := 23) (d := 63) (v := ?_) rfl rfl (by kernel_rfl) (by kernel_rfl) (by kernel_rfl) (fun _ _ _ h => h) (by rfl) ?_ hS1 ?_
      rotate_left
      · intro w' hSw; go_simp <;> with_reducible rfl
      simp only [Act.put, List.setIfInBounds_toArray, List.set_cons_zero, List.set_cons_succ]
      refine wpAnyH_done (by kernel_rfl) ?_ _
      clear hS1 hG
      go_wp2_with fail
      go_roundw
      case rel => exact ⟨q + 1, by omega, by go_num, hb5, s', hfi', hs5, hx6⟩
      case measure => simp [intOf]; omega
    · obtain rfl : q = m := by omega
      go_wp2_with fail
      go_ret
      exact ⟨rfl, hbr⟩
theorem walk_PredGets (w : World) (A : Option Addr) (bs : List UInt8) (len cap : Nat) (hl : bs.length = len) (hc : len ≤ cap) (hm : cap ≤ 140737488351232) (rd : Rd w A bs) (m : Int) (_ : (Lit.int .i64 m).wf = true) :
    Calls Try.prog 4 #[.slice A len cap, .int .i64 m] w fun e w' => e = .returned (.bool true) ∧ Below w.heap.size w w' := by
  by_cases hout : 300 < len ∨ m < 0 ∨ 20 < m
  · exact gets_out w A bs len cap m hl (by omega) rd hout
  · obtain ⟨k, rfl⟩ := Int.eq_ofNat_of_zero_le (show 0 ≤ m by omega)
    exact gets_in w A bs len cap k hl (by omega) hc (by omega) rd (by omega)

/-! ### The row's step. -/
namespace predGets
theorem own : ownKnob Try.prog.godebug = none := by kernel_rfl
theorem laidOut : laidOutB Try.prog = true := by kernel_rfl
set_option linter.unusedVariables false in
set_option maxRecDepth 100000 in
theorem lifted (os : Os) (started : os.Started) (H : Type) (enc : TypeId × Value → H) :
    ReturnsInHanded {} Try.checked os 4 .any (Rows.predGetsSpec.pre6 enc Try.prog Try.f4 Rows.predGetsRow.domain false) (Rows.predGetsSpec.post enc Try.prog Try.f4 false true false false) := by
  refine returnsInHanded_of_change_sized (C := Try.checked) own started (by kernel_rfl) Try.func4
    (ChangeSpec.witness6 (enc := enc) (C := Try.checked) false ⟨#[], #[.slice none 0 0, .int .i64 0], []⟩ 8 (by kernel_rfl) (by kernel_rfl) (by kernel_rfl) (by kernel_rfl)) ?_
  intro W base args ds gs before hval0 hW hcnd hsz0 _
  have hval : ∀ (j : Nat) t v, Try.f4.params[j]? = some t → args[j]? = some v → Value.okWide Try.prog W .any base t v := hval0
  have hsz : (DataW.weightsEach Try.prog (Try.f4.params.toList ++ Rows.predGetsSpec.plain.varTypes Try.prog) (ds ++ gs)).all (· ≤ reachBytes) = true := hsz0
  have hW' := hW
  obtain ⟨p, q, hA0, hV, rfl, hfz, hnd⟩ := hW
  have hA : DataW.TrodAll enc Try.prog W 0 (fun _ => true) true Try.f4.params.toList args.toList ds p := hA0
  rw [Try.params4] at hA hval hsz
  obtain ⟨v0, vs0, d0, ds0, p0, q0, hargs, rfl, rfl, h0, r0⟩ := trodAll_cons hA
  obtain ⟨v1, vs1, d1, ds1, p1, q1, rfl, rfl, rfl, h1, r1⟩ := trodAll_cons r0
  obtain ⟨rfl, rfl, rfl⟩ := trodAll_nil r1
  obtain rfl : args = #[v0, v1] := by cases args; simp_all
  obtain ⟨rfl, rfl⟩ := trodVars_none hV
  obtain ⟨a0, len0, cap0, rfl⟩ := okWide_slice Try.underlying27 (hval 0 27 v0 rfl rfl)
  have k0 := h0
  have lt0 : ∀ x ∈ p0, x.block < W.heap.size := by obtain ⟨m, hm⟩ := k0; exact DataW.trod_lt m _ _ _ hm
  obtain ⟨bs0, hl0, hc0, hm0, rd0⟩ : ∃ bs : List UInt8, bs.length = len0 ∧ len0 ≤ cap0 ∧ cap0 ≤ 140737488351232 ∧ Rd W a0 bs := by
    obtain ⟨fuel, hf⟩ := h0
    rcases open_ints Try.underlying27 Try.underlying5 (by kernel_rfl) hf with ⟨hcs, _⟩ | ⟨x, l, c, zs, hcs, _, hl, hm, hz, hx, hcell, hwz⟩
    · simp [Value.cells] at hcs
      obtain ⟨rfl, rfl, rfl⟩ := hcs
      exact ⟨[], rfl, by omega, by omega, .inl rfl⟩
    · simp [Value.cells] at hcs
      obtain ⟨rfl, rfl, rfl⟩ := hcs
      have hz' : zs.length = cap0 := by simpa using hz
      have hd : d0 = .slice (lits .u8 (zs.take len0)) (lits .u8 (zs.drop len0)) := congrArg Prod.fst hx
      have hb := sized_slice hsz (j := 0) (t := 27) (elems := lits .u8 (zs.take len0)) (spare := lits .u8 (zs.drop len0)) rfl (by rw [hd]; rfl) Try.underlying27
      have hb' : cap0 ≤ 140737488351232 := by
        rw [show Try.prog.bytesOf 5 = 1 from by kernel_rfl] at hb
        simp [lits, reachBytes] at hb; omega
      obtain ⟨bs, e1, e2⟩ := rd_of_ints hl hz' hcell hwz
      exact ⟨bs, e1, hl, hb', e2⟩
  obtain ⟨a1, rfl, rfl, rfl, w1⟩ := open_int Try.underlying3 (hval 1 3 v1 rfl rfl) h1
  clear hA0 hval0
  refine (walk_PredGets W a0 bs0 len0 cap0 hl0 hc0 hm0 rd0 a1 w1).mono fun e W' ⟨he, bel⟩ => ?_
  subst he
  exact ⟨_, rfl, _, _, _, [], _, [], hW', trodAll_mk1 (shut_bool Try.underlying4 _), (trodAll_cons_mk (Below.trod laidOut (by kernel_rfl) (of_decide_eq_true (by kernel_rfl)) k0 bel lt0) (trodAll_cons_mk (shut_int Try.underlying3 w1) trodAll_mk0)), rfl, bel.frame _, fun h => by cases h⟩
theorem over : Rows.predGetsRow.holds Try.pinned (OpenSpec.ofChange Rows.predGetsSpec) :=
  OpenClaim.holds_of_wide 4 Try.f4 rfl rfl rfl rfl rfl rfl rfl ⟨rfl, rfl, rfl, rfl, rfl⟩ rfl rfl rfl rfl rfl (by kernel_rfl) Try.func4 (by kernel_rfl)
    (of_decide_eq_true (by kernel_rfl)) (by unfold Func.isWrapper; first | (rw [if_pos (by decide +kernel)]; kernel_rfl) | (rw [if_neg (by decide +kernel)]; exact ⟨rfl, rfl⟩))
    (fun os started H enc _ => lifted os started H enc)
end predGets
/-- THE STATEMENT. -/
theorem predGets_holds : Rows.PredGetsSaid := predGets.over
#print axioms predGets_holds
end Go.Proofs.Ytcmjekchfgnbdaa
