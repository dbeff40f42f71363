/-
  What is read, and which error there is, call by call: for all bytes and all calls, the call of the law answers true, and all arguments read behind it as they read before. No condition.
-/
import Derived.Test.YtgadpdjhnlblaaaWRefT
import Derived.Test.YtgadpdjhnlblaaaArgs
namespace Go.Proofs.Ytgadpdjhnlblaaa
open Go.RowKit Go.ChangeShapes Go.WideShapes Go.ChangeAt
set_option maxRecDepth 100000 in
/-- On, with the place of the bytes that it keeps. -/
theorem on_fresh (A : Option Addr) (bs : List UInt8) (n cap : Nat) (hn : bs.length = n) (hl : n ≤ 140737488355328) (w : World) (hr : Rd w A bs) :
    Calls Try.prog 15 #[.slice A n cap] w fun e w' => ∃ g a, e = .returned (.pointer (some ⟨g, 0, none⟩)) ∧ w.heap.size ≤ g ∧ w.heap.size ≤ a ∧ Below w.heap.size w w' ∧ Blk w' g 54 #[.slice (some ⟨a, 0, none⟩) n n, .int .i64 0] ∧ Blk w' a 5 (bs.map Bv).toArray := by
  have HN := Lib.hid hn
  clear hn
  go_enter Try.func15, Try.ntmps15
  go_wp2_with fail
  refine (copied_at A bs n cap 0 n _ rfl HN.out rfl hl w hr).mono ?_
  rintro e w1 ⟨g, Z, rfl, hg, hb, hB, hZ⟩
  obtain rfl : Z = [] := List.eq_nil_of_length_eq_zero hZ
  clear hZ
  go_wp2_with fail
  go_ret
  rw [List.append_nil] at hB
  exact ⟨w1.heap.size, g, rfl, hb.size, hg, hb.alloc hb.size _, Blk.new _ _ _, hB.alloc _⟩
set_option maxRecDepth 100000 in
set_option maxHeartbeats 3200000 in
theorem scans_any (w : World) (A C : Option Addr) (bs : List UInt8) (cs : List (Int × Int)) (len cap len2 cap2 : Nat) (hl : bs.length = len) (hcap : len ≤ cap) (hm : cap ≤ 140737488351232) (rd : Rd w A bs)
    (hl2 : cs.length = len2) (hm2 : len2 ≤ 9223372036854775807) (rd2 : RdP w C cs) (hw2 : ∀ z ∈ cs, (Lit.int .i64 z.1).wf = true ∧ (Lit.int .i64 z.2).wf = true) :
    Calls Try.prog 4 #[.slice A len cap, .slice C len2 cap2] w fun e w' => e = .returned (.bool true) ∧ Below w.heap.size w w' := by
  obtain ⟨i0, hi0, hz0, hz1, hz2⟩ := info_parts byte_info
  have HL := Lib.hid hl
  have HL2 := Lib.hid hl2
  have HW := Lib.hid hw2
  clear hl hl2 hw2
  go_enter Try.func4, Try.ntmps4
  go_wp2_with fail
  refine (small_any _).mono ?_
  rintro e1 w1 ⟨rfl, hb1⟩
  have hr1 : Rd (w1.alloc (.cells #[] 5)) A bs := rd.below (hb1.alloc hb1.size _)
  go_wp2_with (at_builtin; refine wpList_append_rd rfl (.tmp 14) (.tmp 15) 22 rfl w1.heap.size 5 i0 Try.underlying22 hi0 hz0 hz1 hz2 _ [] (by rfl) (Own.empty w1 w1.heap.size 5 (Nat.le_refl _)) A bs len cap (by rfl) hr1 HL.out (by simp; omega) (by simp) ?_; intro v2 w2 hown2 hb2' _ _)
  rw [List.nil_append] at hown2
  have hb2 := below_next hb1 (Nat.le_refl _) (hb2' w1 ((Below.refl _ _).alloc (Nat.le_refl _) _))
  have hz1w := hb1.size
  have hz2w := hb2.size
  obtain ⟨D, c, gi, rfl, hgi, hrD, hform⟩ := own_form hown2
  rw [HL.out] at hform
  have hgiw : w.heap.size ≤ gi := by omega
  clear hown2 hb2' hr1 hb1 hgi hz1w
  rw [HL.out]
  refine (on_fresh D bs len c HL.out (by omega) _ hrD).mono ?_
  rintro e1 w3 ⟨gs, ga, rfl, hgs, hga, hb3, hBs, hBa⟩
  have hFO : Hid (0 < len → D = some ⟨gi, 0, none⟩ ∧ gi < w2.heap.size ∧ ∃ cur, Blk w3 gi 5 cur ∧ len ≤ cur.size) := by
    intro h0
    obtain ⟨hD, cur, hB, hsz⟩ := hform h0
    exact ⟨hD, hB.lt, cur, hB.below hb3 hB.lt, hsz⟩
  replace hb3 := below_next hb2 (Nat.le_refl _) hb3
  clear hform hrD hb2
  by_cases h1 : (300 : Int) < (len : Int)
  · have hd1 : decide ((300 : Int) < (len : Int)) = true := by simpa using h1
    go_wp2_with fail
    go_ret
    exact ⟨rfl, hb3⟩
  · have hd1 : decide ((300 : Int) < (len : Int)) = false := by simpa using h1
    by_cases h2 : (60 : Int) < (len2 : Int)
    · have hd2 : decide ((60 : Int) < (len2 : Int)) = true := by simpa using h2
      go_wp2_with fail
      go_ret
      exact ⟨rfl, hb3⟩
    · have hd2 : decide ((60 : Int) < (len2 : Int)) = false := by simpa using h2
      have hl300 : len ≤ 300 := by omega
      have hl60 : len2 ≤ 60 := by omega
      clear h1 h2 hm2
      have hb4 := hb3.alloc hb3.size (.cells #[.slice A len cap, .int .i64 0] 35)
      have hBx : Blk (w3.alloc (.cells #[.slice A len cap, .int .i64 0] 35)) w3.heap.size 35 #[.slice A len cap, .int .i64 0] := Blk.new _ _ _
      have hBs4 := hBs.alloc (.cells #[.slice A len cap, .int .i64 0] 35)
      have hBa4 := hBa.alloc (.cells #[.slice A len cap, .int .i64 0] 35)
      have hFO4 : Hid (0 < len → D = some ⟨gi, 0, none⟩ ∧ gi < w2.heap.size ∧ ∃ cur, Blk (w3.alloc (.cells #[.slice A len cap, .int .i64 0] 35)) gi 5 cur ∧ len ≤ cur.size) := by
        intro h0
        obtain ⟨hD, hgl, cur, hB, hsz⟩ := hFO.out h0
        exact ⟨hD, hgl, cur, hB.alloc _, hsz⟩
      have hls := hBs.lt
      have hla := hBa.lt
      have hw3 : w.heap.size ≤ w3.heap.size := hb3.size
      clear hFO hBs hBa hb3
      go_wp2_with fail
      generalize w3.alloc (.cells #[.slice A len cap, .int .i64 0] 35) = w4 at *
      have hne : Hid (gs ≠ w3.heap.size ∧ w.heap.size ≤ gs ∧ w.heap.size ≤ w3.heap.size ∧ (0 < len → gs ≠ gi ∧ ga ≠ gi ∧ w3.heap.size ≠ gi)) := by
        refine ⟨by omega, by omega, by omega, fun h0 => ?_⟩
        obtain ⟨_, hgl, _⟩ := hFO4.out h0
        omega
      generalize w3.heap.size = gx at *
      clear hls hla hw3 hgs hga hz2w
      go_loopw [9] (fun x wr => ∃ q : Nat, q ≤ len ∧ x = .int .i64 (q : Int) ∧ Hid (Touch gi w4 wr ∧ (len = 0 → wr = w4)) ∧ Hid (0 < len → ∃ cur, Blk wr gi 5 cur ∧ len ≤ cur.size)) (fun x _ => len - (intOf x).toNat)
      case atStart => exact ⟨0, by omega, rfl, ⟨Touch.refl _ _, fun _ => rfl⟩, fun h0 => (hFO4.out h0).2.2⟩
      case round =>
        obtain ⟨q, hq, rfl, hT, hcur⟩ := hrel
        by_cases hlt : q < len
        · obtain ⟨rfl, _, _⟩ := hFO4.out (by omega)
          obtain ⟨cur, hBc, hsz⟩ := hcur.out (by omega)
          have hin : q < cur.size := by omega
          obtain ⟨u, hc⟩ : ∃ u, wr.cell? ⟨gi, q, none⟩ = some u := ⟨_, (hBc.cell q).trans (Array.getElem?_eq_getElem hin)⟩
          have hf := hBc.frozen q
          clear hin
          go_wp2_with fail
          go_roundw
          case rel =>
            refine ⟨q + 1, by omega, by go_num, ⟨hT.out.1.set_ _ _, fun h0 => by omega⟩, fun _ => ⟨_, hBc.put q _, ?_⟩⟩
            rw [Array.size_setIfInBounds]; exact hsz
          case measure => simp [intOf]; omega
        · obtain rfl : q = len := by omega
          have hbr0 : Below w.heap.size w wr := hT.out.1.below hb4 hb4.size hgiw
          have hS0 : Sc wr gs 54 ⟨bs, 0⟩ ∧ Sc wr gx 35 ⟨bs, 0⟩ := by
            have hra := rd.below hbr0
            rcases Nat.eq_zero_or_pos q with h0 | h0
            · have e := hT.out.2 h0
              subst e
              exact ⟨⟨_, q, q, hBs4, HL.out, Nat.le_refl _, by omega, hBa4.rd⟩, ⟨A, q, cap, hBx, HL.out, hcap, by omega, hra⟩⟩
            · obtain ⟨n1, n2, n3⟩ := hne.out.2.2.2 h0
              exact ⟨⟨_, q, q, hT.out.1.blk hBs4 n1, HL.out, Nat.le_refl _, by omega, (hT.out.1.blk hBa4 n2).rd⟩, ⟨A, q, cap, hT.out.1.blk hBx n3, HL.out, hcap, by omega, hra⟩⟩
          have HS0 := Lib.hid hS0
          have hgn : Hid (gs ≠ gx) := hne.out.1
          have hgn1 : Hid (w.heap.size ≤ gs) := hne.out.2.1
          have hgn2 : Hid (w.heap.size ≤ gx) := hne.out.2.2.1
          clear hS0 hT hcur hne hFO4 hBs4 hBa4 hBx hb4 hlt hq
          go_wp2_with fail
          go_loopw [10] (fun x wr => ∃ (k : Nat) (s : Wire.St), k ≤ len2 ∧ x = .int .i64 (k : Int) ∧ Hid s.fine ∧ Below w.heap.size w wr ∧ Sc wr gs 54 s ∧ Sc wr gx 35 s) (fun x _ => len2 - (intOf x).toNat)
          case atStart => exact ⟨0, ⟨bs, 0⟩, by omega, rfl, fun h => absurd rfl h, hbr0, HS0.out.1, HS0.out.2⟩
          case round =>
            clear hbr0 HS0
            obtain ⟨k, s, hk, rfl, hfi, hbr, hsr, hxr⟩ := hrel
            by_cases hlt : k < len2
            · obtain ⟨g2, off, rfl, hg2, hc1, hc2⟩ := (rd2.below hbr).at_ (k := k) (by rw [HL2.out]; exact hlt)
              have hmem : cs[k]'(by rw [HL2.out]; exact hlt) ∈ cs := List.getElem_mem _
              have hwf := HW.out _ hmem
              generalize cs[k]'(by rw [HL2.out]; exact hlt) = cc at *
              obtain ⟨d, z⟩ := cc
              simp only at hc1 hc2 hwf
              have hzb := bounds_i64 hwf.2
              clear hmem hwf
              have HZ := Lib.hid hzb
              clear hzb
              by_cases q0 : d.tmod 5 = 0
              · have hf' : Hid (s.numS.fine) := Wire.St.numS_fine hfi.out
                go_wp2_with fail
                refine (num_at _ gs s hsr).mono ?_
                rintro e1 wp ⟨rfl, hsp, htp⟩
                have hbp := htp.below hbr hbr.size hgn1.out
                have hxp := htp.sc hsr hxr hgn.out.symm
                clear htp
                go_wp2_with fail
                refine (refNum_at _ gx s hxp hfi.out).mono ?_
                rintro e1 wq ⟨rfl, hxq, htq⟩
                have hbq := htq.below hbp hbp.size hgn2.out
                have hsq := htq.sc hxp hsp hgn.out
                clear htq hxp hsp hbp hsr hxr hbr
                have hfq := hf'
                clear hf'
                generalize s.numS = s' at *
                generalize s.numV = nv at *
                obtain ⟨A9, n9, cap9, hB9, l1, l2, l3, hr9⟩ := id hxq
                obtain ⟨c0, c1, f0, f1⟩ := blk2 hB9
                have HN9 := Lib.hid l1
                obtain ⟨ee, hee⟩ : ∃ ee, s'.endE = ee := ⟨_, rfl⟩
                have HEE := Lib.hid hee
                clear l1 hee hB9
                go_wp2_with fail
                go_quiet (first
                  | (go_at_call_of 26 (Value.pointer (some ⟨gs, 0, none⟩)); exact quiet_same (left_at _ gs _ (hsq.drewN _) n9 HN9.out))
                  | (go_at_call_of 27 (Value.pointer (some ⟨gs, 0, none⟩)); exact quiet_same (err_at _ gs _ (hsq.drewN _) s'.err rfl))
                  | (go_at_call_of 28 (Value.pointer (some ⟨gs, 0, none⟩)); exact quiet_same (end_at _ gs _ (hsq.drewN _) ee HEE.out))
                  | (go_at_call_of 29 (Value.pointer (some ⟨gx, 0, none⟩)); exact quiet_same (refEnd_at _ gx _ (hxq.drewN _) ee HEE.out)))
                go_wp2_with fail
                go_roundw
                case rel => exact ⟨k + 1, s', by omega, by go_num, hfq, below_drewN hbq _, hsq.drewN _, hxq.drewN _⟩
                case measure => simp [intOf]; omega
              · by_cases q1 : d.tmod 5 = 1
                · have hf' : Hid ((s.uptoS z).fine) := Wire.St.uptoS_fine hfi.out z
                  go_wp2_with fail
                  refine (upto_at _ gs s hsr z HZ.out.1 HZ.out.2).mono ?_
                  rintro e1 wp ⟨rfl, hsp, htp⟩
                  have hbp := htp.below hbr hbr.size hgn1.out
                  have hxp := htp.sc hsr hxr hgn.out.symm
                  clear htp
                  go_wp2_with fail
                  refine (refUpto_at _ gx s hxp hfi.out z HZ.out.1 HZ.out.2).mono ?_
                  rintro e1 wq ⟨rfl, hxq, htq⟩
                  have hbq := htq.below hbp hbp.size hgn2.out
                  have hsq := htq.sc hxp hsp hgn.out
                  clear htq hxp hsp hbp hsr hxr hbr
                  have hfq := hf'
                  clear hf'
                  generalize s.uptoS z = s' at *
                  generalize s.uptoV z = nv at *
                  obtain ⟨A9, n9, cap9, hB9, l1, l2, l3, hr9⟩ := id hxq
                  obtain ⟨c0, c1, f0, f1⟩ := blk2 hB9
                  have HN9 := Lib.hid l1
                  obtain ⟨ee, hee⟩ : ∃ ee, s'.endE = ee := ⟨_, rfl⟩
                  have HEE := Lib.hid hee
                  clear l1 hee hB9
                  go_wp2_with fail
                  go_quiet (first
                    | (go_at_call_of 26 (Value.pointer (some ⟨gs, 0, none⟩)); exact quiet_same (left_at _ gs _ (hsq.drewN _) n9 HN9.out))
                    | (go_at_call_of 27 (Value.pointer (some ⟨gs, 0, none⟩)); exact quiet_same (err_at _ gs _ (hsq.drewN _) s'.err rfl))
                    | (go_at_call_of 28 (Value.pointer (some ⟨gs, 0, none⟩)); exact quiet_same (end_at _ gs _ (hsq.drewN _) ee HEE.out))
                    | (go_at_call_of 29 (Value.pointer (some ⟨gx, 0, none⟩)); exact quiet_same (refEnd_at _ gx _ (hxq.drewN _) ee HEE.out)))
                  go_wp2_with fail
                  go_roundw
                  case rel => exact ⟨k + 1, s', by omega, by go_num, hfq, below_drewN hbq _, hsq.drewN _, hxq.drewN _⟩
                  case measure => simp [intOf]; omega
                · by_cases q2 : d.tmod 5 = 2
                  · have hf' : Hid (s.numS.fine) := Wire.St.numS_fine hfi.out
                    go_wp2_with fail
                    refine (int_at _ gs s hsr).mono ?_
                    rintro e1 wp ⟨rfl, hsp, htp⟩
                    have hbp := htp.below hbr hbr.size hgn1.out
                    have hxp := htp.sc hsr hxr hgn.out.symm
                    clear htp
                    go_wp2_with fail
                    refine (refInt_at _ gx s hxp hfi.out).mono ?_
                    rintro e1 wq ⟨rfl, hxq, htq⟩
                    have hbq := htq.below hbp hbp.size hgn2.out
                    have hsq := htq.sc hxp hsp hgn.out
                    clear htq hxp hsp hbp hsr hxr hbr
                    have hfq := hf'
                    clear hf'
                    generalize s.numS = s' at *
                    generalize Wire.zag s.numV = nv at *
                    obtain ⟨A9, n9, cap9, hB9, l1, l2, l3, hr9⟩ := id hxq
                    obtain ⟨c0, c1, f0, f1⟩ := blk2 hB9
                    have HN9 := Lib.hid l1
                    obtain ⟨ee, hee⟩ : ∃ ee, s'.endE = ee := ⟨_, rfl⟩
                    have HEE := Lib.hid hee
                    clear l1 hee hB9
                    go_wp2_with fail
                    go_quiet (first
                      | (go_at_call_of 26 (Value.pointer (some ⟨gs, 0, none⟩)); exact quiet_same (left_at _ gs _ (hsq.drewN _) n9 HN9.out))
                      | (go_at_call_of 27 (Value.pointer (some ⟨gs, 0, none⟩)); exact quiet_same (err_at _ gs _ (hsq.drewN _) s'.err rfl))
                      | (go_at_call_of 28 (Value.pointer (some ⟨gs, 0, none⟩)); exact quiet_same (end_at _ gs _ (hsq.drewN _) ee HEE.out))
                      | (go_at_call_of 29 (Value.pointer (some ⟨gx, 0, none⟩)); exact quiet_same (refEnd_at _ gx _ (hxq.drewN _) ee HEE.out)))
                    go_wp2_with fail
                    go_roundw
                    case rel => exact ⟨k + 1, s', by omega, by go_num, hfq, below_drewN hbq _, hsq.drewN _, hxq.drewN _⟩
                    case measure => simp [intOf]; omega
                  · by_cases q3 : d.tmod 5 = 3
                    · have hf' : Hid ((s.textS z).fine) := Wire.St.textS_fine hfi.out z
                      go_wp2_with fail
                      refine (text_at _ gs s hsr z HZ.out.1 HZ.out.2).mono ?_
                      rintro e1 wp ⟨rfl, hsp, htp⟩
                      have hbp := htp.below hbr hbr.size hgn1.out
                      have hxp := htp.sc hsr hxr hgn.out.symm
                      clear htp
                      go_wp2_with fail
                      refine (refText_at _ gx s hxp hfi.out z HZ.out.1 HZ.out.2).mono ?_
                      rintro e1 wq ⟨rfl, hxq, htq⟩
                      have hbq := htq.below hbp hbp.size hgn2.out
                      have hsq := htq.sc hxp hsp hgn.out
                      clear htq hxp hsp hbp hsr hxr hbr
                      have hfq := hf'
                      clear hf'
                      generalize s.textS z = s' at *
                      generalize s.textV z = nv at *
                      obtain ⟨A9, n9, cap9, hB9, l1, l2, l3, hr9⟩ := id hxq
                      obtain ⟨c0, c1, f0, f1⟩ := blk2 hB9
                      have HN9 := Lib.hid l1
                      obtain ⟨ee, hee⟩ : ∃ ee, s'.endE = ee := ⟨_, rfl⟩
                      have HEE := Lib.hid hee
                      clear l1 hee hB9
                      go_wp2_with fail
                      go_quiet (first
                        | (go_at_call_of 26 (Value.pointer (some ⟨gs, 0, none⟩)); exact quiet_same (left_at _ gs _ (hsq.drewN _) n9 HN9.out))
                        | (go_at_call_of 27 (Value.pointer (some ⟨gs, 0, none⟩)); exact quiet_same (err_at _ gs _ (hsq.drewN _) s'.err rfl))
                        | (go_at_call_of 28 (Value.pointer (some ⟨gs, 0, none⟩)); exact quiet_same (end_at _ gs _ (hsq.drewN _) ee HEE.out))
                        | (go_at_call_of 29 (Value.pointer (some ⟨gx, 0, none⟩)); exact quiet_same (refEnd_at _ gx _ (hxq.drewN _) ee HEE.out)))
                      go_wp2_with fail
                      go_roundw
                      case rel => exact ⟨k + 1, s', by omega, by go_num, hfq, below_drewN hbq _, hsq.drewN _, hxq.drewN _⟩
                      case measure => simp [intOf]; omega
                    · by_cases q4 : d.tmod 5 = 4
                      · have hf' : Hid ((s.fail z).fine) := Wire.St.fail_fine hfi.out z
                        go_wp2_with fail
                        refine (fail_at _ gs s hsr z).mono ?_
                        rintro e1 wp ⟨rfl, hsp, htp⟩
                        have hbp := htp.below hbr hbr.size hgn1.out
                        have hxp := htp.sc hsr hxr hgn.out.symm
                        clear htp
                        go_wp2_with fail
                        refine (refFail_at _ gx s hxp hfi.out z).mono ?_
                        rintro e1 wq ⟨rfl, hxq, htq⟩
                        have hbq := htq.below hbp hbp.size hgn2.out
                        have hsq := htq.sc hxp hsp hgn.out
                        clear htq hxp hsp hbp hsr hxr hbr
                        have hfq := hf'
                        clear hf'
                        generalize s.fail z = s' at *
                        obtain ⟨A9, n9, cap9, hB9, l1, l2, l3, hr9⟩ := id hxq
                        obtain ⟨c0, c1, f0, f1⟩ := blk2 hB9
                        have HN9 := Lib.hid l1
                        obtain ⟨ee, hee⟩ : ∃ ee, s'.endE = ee := ⟨_, rfl⟩
                        have HEE := Lib.hid hee
                        clear l1 hee hB9
                        go_wp2_with fail
                        go_quiet (first
                          | (go_at_call_of 26 (Value.pointer (some ⟨gs, 0, none⟩)); exact quiet_same (left_at _ gs _ (hsq.drewN _) n9 HN9.out))
                          | (go_at_call_of 27 (Value.pointer (some ⟨gs, 0, none⟩)); exact quiet_same (err_at _ gs _ (hsq.drewN _) s'.err rfl))
                          | (go_at_call_of 28 (Value.pointer (some ⟨gs, 0, none⟩)); exact quiet_same (end_at _ gs _ (hsq.drewN _) ee HEE.out))
                          | (go_at_call_of 29 (Value.pointer (some ⟨gx, 0, none⟩)); exact quiet_same (refEnd_at _ gx _ (hxq.drewN _) ee HEE.out)))
                        go_wp2_with fail
                        go_roundw
                        case rel => exact ⟨k + 1, s', by omega, by go_num, hfq, below_drewN hbq _, hsq.drewN _, hxq.drewN _⟩
                        case measure => simp [intOf]; omega
                      · have p0 : (d.tmod 5 == 0) = false := by simpa using q0
                        have p1 : (d.tmod 5 == 1) = false := by simpa using q1
                        have p2 : (d.tmod 5 == 2) = false := by simpa using q2
                        have p3 : (d.tmod 5 == 3) = false := by simpa using q3
                        have p4 : (d.tmod 5 == 4) = false := by simpa using q4
                        obtain ⟨s', hs'⟩ : ∃ s', s = s' := ⟨_, rfl⟩
                        subst hs'
                        have hfq := hfi
                        have hbq := hbr
                        have hsq := hsr
                        have hxq := hxr
                        clear hbr hsr hxr
                        obtain ⟨A9, n9, cap9, hB9, l1, l2, l3, hr9⟩ := id hxq
                        obtain ⟨c0, c1, f0, f1⟩ := blk2 hB9
                        have HN9 := Lib.hid l1
                        obtain ⟨ee, hee⟩ : ∃ ee, s.endE = ee := ⟨_, rfl⟩
                        have HEE := Lib.hid hee
                        clear l1 hee hB9
                        go_wp2_with fail
                        go_quiet (first
                          | (go_at_call_of 26 (Value.pointer (some ⟨gs, 0, none⟩)); exact quiet_same (left_at _ gs _ (hsq.drewN _) n9 HN9.out))
                          | (go_at_call_of 27 (Value.pointer (some ⟨gs, 0, none⟩)); exact quiet_same (err_at _ gs _ (hsq.drewN _) s.err rfl))
                          | (go_at_call_of 28 (Value.pointer (some ⟨gs, 0, none⟩)); exact quiet_same (end_at _ gs _ (hsq.drewN _) ee HEE.out))
                          | (go_at_call_of 29 (Value.pointer (some ⟨gx, 0, none⟩)); exact quiet_same (refEnd_at _ gx _ (hxq.drewN _) ee HEE.out)))
                        go_wp2_with fail
                        go_roundw
                        case rel => exact ⟨k + 1, s, by omega, by go_num, hfq, below_drewN hbq _, hsq.drewN _, hxq.drewN _⟩
                        case measure => simp [intOf]; omega
            · obtain rfl : k = len2 := by omega
              go_wp2_with fail
              go_ret
              exact ⟨rfl, hbr⟩
theorem walk_WireScans (w : World) (a0 : Option Addr) (bs : List UInt8) (len cap : Nat) (hl : bs.length = len) (hc : len ≤ cap) (hm : cap ≤ 140737488351232) (rd : Rd w a0 bs)
    (a1 : Option Addr) (cs : List (Int × Int)) (len2 cap2 : Nat) (hl2 : cs.length = len2) (hc2 : len2 ≤ cap2) (hm2 : cap2 ≤ maxLen) (rd2 : RdP w a1 cs) (hw2 : ∀ z ∈ cs, (Lit.int .i64 z.1).wf = true ∧ (Lit.int .i64 z.2).wf = true) :
    Calls Try.prog 4 #[.slice a0 len cap, .slice a1 len2 cap2] w fun e w' => e = .returned (.bool true) ∧ Below w.heap.size w w' :=
  scans_any w a0 a1 bs cs len cap len2 cap2 hl hc hm rd hl2 (by unfold maxLen at hm2; omega) rd2 hw2

/-! ### The row's step. -/
namespace wireScans
theorem own : ownKnob Try.prog.godebug = none := by kernel_rfl
theorem laidOut : laidOutB Try.prog = true := by kernel_rfl
set_option linter.unusedVariables false in
set_option maxRecDepth 100000 in
theorem lifted (os : Os) (started : os.Started) (H : Type) (enc : TypeId × Value → H) :
    ReturnsInHanded {} Try.checked os 4 .any (Rows.wireScansSpec.pre6 enc Try.prog Try.f4 Rows.wireScansRow.domain false) (Rows.wireScansSpec.post enc Try.prog Try.f4 false true false false) := by
  refine returnsInHanded_of_change_sized (C := Try.checked) own started (by kernel_rfl) Try.func4
    (ChangeSpec.witness6 (enc := enc) (C := Try.checked) false ⟨#[], #[.slice none 0 0, .slice none 0 0], []⟩ 8 (by kernel_rfl) (by kernel_rfl) (by kernel_rfl) (by kernel_rfl)) ?_
  intro W base args ds gs before hval0 hW hcnd hsz0 _
  have hval : ∀ (j : Nat) t v, Try.f4.params[j]? = some t → args[j]? = some v → Value.okWide Try.prog W .any base t v := hval0
  have hsz : (DataW.weightsEach Try.prog (Try.f4.params.toList ++ Rows.wireScansSpec.plain.varTypes Try.prog) (ds ++ gs)).all (· ≤ reachBytes) = true := hsz0
  have hW' := hW
  obtain ⟨p, q, hA0, hV, rfl, hfz, hnd⟩ := hW
  have hA : DataW.TrodAll enc Try.prog W 0 (fun _ => true) true Try.f4.params.toList args.toList ds p := hA0
  rw [Try.params4] at hA hval hsz
  obtain ⟨v0, vs0, d0, ds0, p0, q0, hargs, rfl, rfl, h0, r0⟩ := trodAll_cons hA
  obtain ⟨v1, vs1, d1, ds1, p1, q1, rfl, rfl, rfl, h1, r1⟩ := trodAll_cons r0
  obtain ⟨rfl, rfl, rfl⟩ := trodAll_nil r1
  obtain rfl : args = #[v0, v1] := by cases args; simp_all
  obtain ⟨rfl, rfl⟩ := trodVars_none hV
  obtain ⟨a0, len0, cap0, rfl⟩ := okWide_slice Try.underlying22 (hval 0 22 v0 rfl rfl)
  have k0 := h0
  have lt0 : ∀ x ∈ p0, x.block < W.heap.size := by obtain ⟨m, hm⟩ := k0; exact DataW.trod_lt m _ _ _ hm
  obtain ⟨bs0, hl0, hc0, hm0, rd0⟩ : ∃ bs : List UInt8, bs.length = len0 ∧ len0 ≤ cap0 ∧ cap0 ≤ 140737488351232 ∧ Rd W a0 bs := by
    obtain ⟨fuel, hf⟩ := h0
    rcases open_ints Try.underlying22 Try.underlying5 (by kernel_rfl) hf with ⟨hcs, _⟩ | ⟨x, l, c, zs, hcs, _, hl, hm, hz, hx, hcell, hwz⟩
    · simp [Value.cells] at hcs
      obtain ⟨rfl, rfl, rfl⟩ := hcs
      exact ⟨[], rfl, by omega, by omega, .inl rfl⟩
    · simp [Value.cells] at hcs
      obtain ⟨rfl, rfl, rfl⟩ := hcs
      have hz' : zs.length = cap0 := by simpa using hz
      have hd : d0 = .slice (lits .u8 (zs.take len0)) (lits .u8 (zs.drop len0)) := congrArg Prod.fst hx
      have hb := sized_slice hsz (j := 0) (t := 22) (elems := lits .u8 (zs.take len0)) (spare := lits .u8 (zs.drop len0)) rfl (by rw [hd]; rfl) Try.underlying22
      have hb' : cap0 ≤ 140737488351232 := by
        rw [show Try.prog.bytesOf 5 = 1 from by kernel_rfl] at hb
        simp [lits, reachBytes] at hb; omega
      obtain ⟨bs, e1, e2⟩ := rd_of_ints hl hz' hcell hwz
      exact ⟨bs, e1, hl, hb', e2⟩
  obtain ⟨a1, len1, cap1, rfl⟩ := okWide_slice Try.underlying29 (hval 1 29 v1 rfl rfl)
  have k1 := h1
  have lt1 : ∀ x ∈ p1, x.block < W.heap.size := by obtain ⟨m, hm⟩ := k1; exact DataW.trod_lt m _ _ _ hm
  obtain ⟨zs1, hl1, hc1, hm1, rd1, hw1⟩ := open_pairs_of Try.underlying29 Try.underlying37 (by kernel_rfl) ⟨rfl, rfl, by kernel_rfl⟩ ⟨rfl, rfl, by kernel_rfl⟩ Try.underlying3 Try.underlying3 k1
  clear hA0 hval0
  refine (walk_WireScans W a0 bs0 len0 cap0 hl0 hc0 hm0 rd0 a1 zs1 len1 cap1 hl1 hc1 hm1 rd1 hw1).mono fun e W' ⟨he, bel⟩ => ?_
  subst he
  exact ⟨_, rfl, _, _, _, [], _, [], hW', trodAll_mk1 (shut_bool Try.underlying4 _), (trodAll_cons_mk (Below.trod laidOut (by kernel_rfl) (of_decide_eq_true (by kernel_rfl)) k0 bel lt0) (trodAll_cons_mk (Below.trod laidOut (by kernel_rfl) (of_decide_eq_true (by kernel_rfl)) k1 bel lt1) trodAll_mk0)), rfl, bel.frame _, fun h => by cases h⟩
theorem over : Rows.wireScansRow.holds Try.pinned (OpenSpec.ofChange Rows.wireScansSpec) :=
  OpenClaim.holds_of_wide 4 Try.f4 rfl rfl rfl rfl rfl rfl rfl ⟨rfl, rfl, rfl, rfl, rfl⟩ rfl rfl rfl rfl rfl (by kernel_rfl) Try.func4 (by kernel_rfl)
    (of_decide_eq_true (by kernel_rfl)) (by unfold Func.isWrapper; first | (rw [if_pos (by decide +kernel)]; kernel_rfl) | (rw [if_neg (by decide +kernel)]; exact ⟨rfl, rfl⟩))
    (fun os started H enc _ => lifted os started H enc)
end wireScans
/-- THE STATEMENT. -/
theorem wireScans_holds : Rows.WireScansSaid := wireScans.over
#print axioms wireScans_holds
end Go.Proofs.Ytgadpdjhnlblaaa
