/- EventOrders holds at this commit: in whatever order attributes are handed in, one event is made of them, or the same error told; what is made is right, and has them all: any attributes, turned round, and cut and laid anew. No condition. -/
import Derived.Test.YtmecacgiakbclaaESml
import Derived.Deep.LoopGhost
namespace Ev
theorem rev_step (es : List At) (g : Nat) (hg : g < es.length) : (es.drop (g + 1)).reverse ++ [es[g]] = (es.drop g).reverse := by
  rw [List.drop_eq_getElem_cons hg, List.reverse_cons]
theorem turn_perm (es : List At) (k : Nat) : (es.drop k ++ es.take k).Perm es := by
  refine List.perm_append_comm.trans ?_
  rw [List.take_append_drop]
theorem made_find {es out : List At} (h : Made es 0 out) {a : At} (ha : a ∈ es) : find out a.n = some a := by
  have hs := h.2.1 rfl
  exact find_once ((once_of_sort hs).perm hs.1.symm) (hs.1.mem_iff.2 ha)
end Ev
namespace Go.Proofs.Ytmecacgiakbclaa
open Go.RowKit Go.Sort Ev Go.ChangeShapes Go.WideShapes Go.Deep
theorem few_is (A : Option Addr) (es : List At) (n c : Nat) (hn : es.length = n) (hm : n ≤ maxLen) (hb : ∀ a ∈ es, a.n.length ≤ maxLen ∧ a.t.length ≤ maxLen) (b : Bool) (hF : decide (Few es) = b) (w : World) (hr : RdA w A es) :
    Calls Try.prog 9 #[.slice A n c] w fun e w' => e = .returned (.bool b) ∧ w' = w :=
  (few_at A es n c hn hm hb w hr).mono fun _ _ ⟨h, k⟩ => ⟨by rw [h, hF], k⟩
theorem made_short {es out : List At} {cd : Int} (h : Made es cd out) {n : Nat} (hn : es.length = n) : out.length ≤ n := by
  by_cases h0 : cd = 0
  · have := (h.2.1 h0).length; omega
  · rw [h.2.2 h0]; simp
/-- What Make tells of attributes of which it is known already what is made of them. -/
theorem makes_again {w : World} {es es' out : List At} {cd : Int} {e : Ending} {w' : World} (h : Makes w es' e w') (hM : Made es cd out) (p : es.Perm es') {m : Nat} (hm : out.length = m) :
    ∃ A c, e = .returned (.tuple #[.slice A m c, .int .i64 cd]) ∧ m ≤ c ∧ RdA w' A out ∧ Below w.heap.size w w' := by
  obtain ⟨A, c, h1, h2, h3, _, h5⟩ := makes_is h (hM.perm p) hm
  exact ⟨A, c, h1, h2, h3, h5⟩
set_option maxRecDepth 100000 in
set_option maxHeartbeats 4000000 in
theorem orders_in (w : World) (A : Option Addr) (es : List At) (n c : Nat) (hl : es.length = n) (hc : n ≤ c) (hm : c ≤ maxLen) (rd : RdA w A es) (hw : ∀ a ∈ es, a.n.length ≤ maxLen ∧ a.t.length ≤ maxLen) (hF : Few es) (k : Nat) (hk : k ≤ n) :
    Calls Try.prog 5 #[.slice A n c, .int .i64 (k : Int)] w fun e w' => e = .returned (.bool true) ∧ Below w.heap.size w w' := by
  have HN := Lib.hid hl
  have h40 : n ≤ 40 := by have := hF.1; omega
  have hnm : Hid (n ≤ maxLen) := Nat.le_trans hc hm
  have HW := Lib.hid hw
  have HF := Lib.hid (decide_eq_true hF)
  have HRD := Lib.hid rd
  have hhd := run_headA A n c k hk hc
  obtain ⟨A', hct, hrc⟩ := run_cutA (k := k) rd hl hk hc
  have HHD := Lib.hid hhd
  have HCT := Lib.hid hct
  have HRC := Lib.hid hrc
  have HL1 : Hid ((es.take k).length = k) := by show _ = _; rw [List.length_take]; omega
  have HL2 : Hid ((es.drop k).length = n - k) := by show _ = _; rw [List.length_drop, hl]
  have HLL : Hid ((es.drop k ++ es.take k).length = n) := by show _ = _; rw [List.length_append, HL1.out, HL2.out]; omega
  have HWT : Hid (∀ a ∈ es.drop k ++ es.take k, a.n.length ≤ maxLen ∧ a.t.length ≤ maxLen) := fun a ha => hw a ((turn_perm es k).mem_iff.1 ha)
  have HWR : Hid (∀ a ∈ es.reverse, a.n.length ≤ maxLen ∧ a.t.length ≤ maxLen) := fun a ha => hw a (List.mem_reverse.1 ha)
  have q1 : decide ((k : Int) < 0) = false := decide_eq_false (by omega)
  have q2 : decide (n < k) = false := decide_eq_false (by omega)
  have hwn : IntKind.i64.wrap ((n : Int) - 1) = (n : Int) - 1 := by rw [IntKind.wrap_i64]; omega
  clear hl hc hm hw hF rd hhd hct hrc
  go_enter Try.func5, Try.ntmps5
  go_wp2_with fail
  refine (small_any w).mono ?_
  rintro e w1 ⟨rfl, hb1⟩
  go_wp2_with fail
  refine (few_is A es n c HN.out hnm.out HW.out true HF.out w1 (HRD.out.below hb1)).mono ?_
  rintro e w2 ⟨rfl, rfl⟩
  have HB1 := Lib.hid hb1
  clear hb1 HF
  go_wp2_with fail
  clear q1 q2 hwn
  go_loopg [7, 8] n (fun g o i wx => ∃ z : Int, i = .int .i64 z ∧ z = (g : Int) - 1 ∧ g ≤ n ∧ Hid (OwnA wx w.heap.size o (es.drop g).reverse) ∧ Hid (Below w.heap.size w wx))
  case atStart => exact ⟨_, rfl, by first | rfl | omega, Nat.le_refl _, (by show OwnA _ _ _ _; rw [List.drop_eq_nil_of_le (by rw [HN.out]; omega)]; exact OwnA.none_ _ _), HB1⟩
  case round =>
    obtain ⟨z, rfl, hz, hgn, HO, HB⟩ := hrel
    clear HB1
    cases gk with
    | succ gq =>
      obtain rfl : z = (gq : Int) := by omega
      clear hz
      have hg' : gq < es.length := by rw [HN.out]; omega
      obtain ⟨g, off, rfl, hg, hC⟩ := (HRD.out.below HB.out).at_ hg'
      have HST := Lib.hid (rev_step es gq hg')
      obtain ⟨z, hz⟩ : ∃ z, es[gq] = z := ⟨_, rfl⟩
      have HE := Lib.hid hz
      rw [hz] at hC
      clear hz
      obtain ⟨zn, zk, zi, zt⟩ := z
      obtain ⟨c0, c1, c2, c3⟩ := hC
      simp only at c0 c1 c2 c3
      have hi1 : (gq : Int) < (n : Int) := by omega
      have hi0 : (0 : Int) ≤ (gq : Int) := by omega
      have HLR : Hid ((es.drop (gq + 1)).reverse.length = n - (gq + 1)) := by show _ = _; rw [List.length_reverse, List.length_drop, HN.out]
      have hsz : w.heap.size ≤ wr.heap.size := HB.out.size
      have hb2 := HB.out.alloc hsz (.cells #[.string ⟨zn.toArray⟩, .int .i64 zk, .int .i64 zi, .string ⟨zt.toArray⟩] 32)
      have ho2 := HO.out.below ((Below.refl _ _).alloc (Nat.le_refl _) (.cells #[.string ⟨zn.toArray⟩, .int .i64 zk, .int .i64 zi, .string ⟨zt.toArray⟩] 32))
      have hwq : IntKind.i64.wrap ((gq : Int) - 1) = (gq : Int) - 1 := by rw [IntKind.wrap_i64]; omega
      go_wp2_with (at_builtin; refine wpList_append_a (by rfl) (.tmp 43) (.tmp 48) rfl w.heap.size _ (es.drop (gq + 1)).reverse (by rfl) ho2 _ [⟨zn, zk, zi, zt⟩] 1 1 (by rfl) (rda_one wr ⟨zn, zk, zi, zt⟩ 32) rfl (by rw [HLR.out]; omega) (by simp; omega) ?_; intro v3 w3 o3 b3 _ _; have hb3 := Lib.hid (b3 w hb2); have HO3 : Hid (OwnA w3 w.heap.size v3 (es.drop gq).reverse) := (by show OwnA _ _ _ _; rw [← HST.out, HE.out]; exact o3); clear b3 o3 ho2 hb2 c0 c1 c2 c3)
      go_roundg gq
      case measure => omega
      case rel => exact ⟨_, rfl, by first | rfl | omega, by omega, HO3, hb3⟩
    | zero =>
      obtain rfl : z = -1 := by omega
      have ho2 := HO.out
      rw [List.drop_zero] at ho2
      obtain ⟨Ab, cb, rfl, hcb, hrb⟩ := ho2.rd
      have HRB := Lib.hid hrb
      rw [List.length_reverse, HN.out] at hcb ⊢
      clear HO ho2 hcb hrb hz hgn
      go_wp2_with fail
      refine (make_at A es n c HN.out hnm.out HW.out wr (HRD.out.below HB.out)).mono ?_
      intro e w3 hMk
      obtain ⟨va, cd, out, rfl, hMa, hOa, hb3⟩ := hMk
      obtain ⟨Aa, ca, rfl, hca, hra⟩ := hOa.rd
      have hms := made_short hMa HN.out
      have HMA := Lib.hid hMa
      obtain ⟨m, hmo⟩ : ∃ m, out.length = m := ⟨_, rfl⟩
      have HM := Lib.hid hmo
      rw [hmo] at hca hms ⊢
      have HRA := Lib.hid hra
      have HB3 := Lib.hid (below_next HB.out (Nat.le_refl _) hb3)
      have HRB3 := Lib.hid (HRB.out.below hb3)
      have HMB : Hid (m ≤ maxLen) := Nat.le_trans hms hnm.out
      clear hmo hOa hMa hra hca hb3 HB HRB
      go_wp2_with fail
      refine (make_at Ab es.reverse n cb (by rw [List.length_reverse]; exact HN.out) hnm.out HWR.out w3 HRB3.out).mono ?_
      intro e w4 hMk
      obtain ⟨A2, c2, rfl, _, hr2, hb4⟩ := makes_again hMk HMA.out (List.reverse_perm es).symm HM.out
      have HR2 := Lib.hid hr2
      have HRA4 := Lib.hid (HRA.out.below hb4)
      have HB4 := Lib.hid (below_next HB3.out (Nat.le_refl _) hb4)
      clear hMk hr2 hb4 HRA HB3 HRB3
      have hhd := HHD.out
      have hct := HCT.out
      go_wp2_with fail
      have hS0 : Below w4.heap.size w4 w4.drew := (Below.refl _ _).drew
      refine wp_region_held_drew (S := fun w' => Below w4.heap.size w4 w') (by kernel_rfl) hS0 (fun _ => ?_)
      refine wpAnyH_yes (i := 1) (d := 62) (v := ?_) rfl rfl (by kernel_rfl) (by kernel_rfl) (by kernel_rfl) (fun _ _ _ h => h) (by rfl) ?_ hS0 ?_
      rotate_left
      · intro w' hSw; go_simp <;> with_reducible rfl
      simp only [Act.put, List.setIfInBounds_toArray, List.set_cons_zero, List.set_cons_succ]
      refine wpAnyH_yes (i := 2) (d := 63) (v := ?_) rfl rfl (by kernel_rfl) (by kernel_rfl) (by kernel_rfl) (fun _ _ _ h => h) (by rfl) ?_ hS0 ?_
      rotate_left
      · intro w' hSw; go_simp <;> with_reducible rfl
      simp only [Act.put, List.setIfInBounds_toArray, List.set_cons_zero, List.set_cons_succ]
      refine wpAnyH_yes (i := 3) (d := 64) (v := ?_) rfl rfl (by kernel_rfl) (by kernel_rfl) (by kernel_rfl) (fun _ _ _ h => h) (by rfl) ?_ hS0 ?_
      rotate_left
      · intro w' hSw; go_simp <;> with_reducible rfl
      simp only [Act.put, List.setIfInBounds_toArray, List.set_cons_zero, List.set_cons_succ]
      refine wpAnyH_yes (i := 5) (d := 66) (v := ?_) rfl rfl (by kernel_rfl) (by kernel_rfl) (by kernel_rfl) (fun _ _ _ h => h) (by rfl) ?_ hS0 ?_
      rotate_left
      · intro w' hSw; go_simp <;> with_reducible rfl
      simp only [Act.put, List.setIfInBounds_toArray, List.set_cons_zero, List.set_cons_succ]
      refine wpAnyH_yes (i := 6) (d := 67) (v := ?_) rfl rfl (by kernel_rfl) (by kernel_rfl) (by kernel_rfl) (fun _ _ _ h => h) (by rfl) ?_ hS0 ?_
      rotate_left
      · intro w' hSw; go_simp <;> with_reducible rfl
      simp only [Act.put, List.setIfInBounds_toArray, List.set_cons_zero, List.set_cons_succ]
      refine wpAnyH_yes (i := 7) (d := 68) (v := ?_) rfl rfl (by kernel_rfl) (by kernel_rfl) (by kernel_rfl) (fun _ _ _ h => h) (by rfl) ?_ hS0 ?_
      rotate_left
      · intro w' hSw; go_simp <;> with_reducible rfl
      simp only [Act.put, List.setIfInBounds_toArray, List.set_cons_zero, List.set_cons_succ]
      refine wpAnyH_one (i := 0) (by kernel_rfl) rfl (by rfl) (fun K hK1 => ?_)
      go_simp
      have hb5 : Below w4.heap.size w4 (w4.alloc (.cells #[] 32)).drew := ((Below.refl _ _).alloc (Nat.le_refl _) _).drew
      have hO5 : OwnA (w4.alloc (.cells #[] 32)).drew w4.heap.size (.slice (some ⟨w4.heap.size, 0, none⟩) 0 0) [] := OwnA.empty w4 w4.heap.size (Nat.le_refl _)
      refine hK1.out _ _ hb5 ?_
      refine wpAnyH_one (i := 4) (by kernel_rfl) rfl (by rfl) (fun K hK2 => ?_)
      refine op_append_a (.tmp 61) (.tmp 64) rfl w4.heap.size (.slice (some ⟨w4.heap.size, 0, none⟩) 0 0) [] (by rfl) hO5 A' (es.drop k) (n - k) (c - k) (by rfl) ((HRC.out.below HB4.out).below hb5) HL2.out (by simp; omega) hb5.size ?_
      intro v6 w6 hO6 hb6'
      have hb6 := hb6' w4 hb5
      rw [List.nil_append] at hO6
      refine hK2.out _ _ hb6 ?_
      simp only [Act.put, List.setIfInBounds_toArray, List.set_cons_zero, List.set_cons_succ]
      refine wpAnyH_one (i := 8) (by kernel_rfl) rfl (by rfl) (fun K hK3 => ?_)
      refine op_append_a (.tmp 65) (.tmp 68) rfl w4.heap.size v6 (es.drop k) (by rfl) hO6 A (es.take k) k c (by rfl) (((HRD.out.below HB4.out).take k).below hb6) HL1.out (by rw [HL2.out]; omega) hb6.size ?_
      intro v7 w7 hO7 hb7'
      have hb7 := hb7' w4 hb6
      obtain ⟨A7, c7, rfl, hc7, hr7⟩ := hO7.rd
      rw [HLL.out] at hc7 ⊢
      refine hK3.out _ _ hb7 ?_
      simp only [Act.put, List.setIfInBounds_toArray, List.set_cons_zero, List.set_cons_succ]
      refine wpAnyH_one (i := 9) (by kernel_rfl) rfl (by rfl) (fun K hK4 => ?_)
      go_simp
      with_reducible refine (make_at A7 (es.drop k ++ es.take k) n c7 HLL.out hnm.out HWT.out _ hr7).mono ?_
      intro e w8 hMk
      obtain ⟨A3, c3, rfl, _, hr3, hb8⟩ := makes_again hMk HMA.out (turn_perm es k).symm HM.out
      replace hb8 := below_next hb7 (Nat.le_refl _) hb8
      go_wp2_with fail
      refine hK4.out _ _ hb8 ?_
      refine wpAnyH_yes (i := 10) (d := 60) (v := ?_) rfl rfl (by kernel_rfl) (by kernel_rfl) (by kernel_rfl) (fun _ _ _ h => h) (by rfl) ?_ hb8 ?_
      rotate_left
      · intro w' hSw; go_simp <;> with_reducible rfl
      simp only [Act.put, List.setIfInBounds_toArray, List.set_cons_zero, List.set_cons_succ]
      refine wpAnyH_yes (i := 11) (d := 71) (v := ?_) rfl rfl (by kernel_rfl) (by kernel_rfl) (by kernel_rfl) (fun _ _ _ h => h) (by rfl) ?_ hb8 ?_
      rotate_left
      · intro w' hSw; go_simp <;> with_reducible rfl
      simp only [Act.put, List.setIfInBounds_toArray, List.set_cons_zero, List.set_cons_succ]
      refine wpAnyH_yes (i := 12) (d := 72) (v := ?_) rfl rfl (by kernel_rfl) (by kernel_rfl) (by kernel_rfl) (fun _ _ _ h => h) (by rfl) ?_ hb8 ?_
      rotate_left
      · intro w' hSw; go_simp <;> with_reducible rfl
      simp only [Act.put, List.setIfInBounds_toArray, List.set_cons_zero, List.set_cons_succ]
      refine wpAnyH_yes (i := 13) (d := 13) (v := ?_) rfl rfl (by kernel_rfl) (by kernel_rfl) (by kernel_rfl) (fun _ _ _ h => h) (by rfl) ?_ hb8 ?_
      rotate_left
      · intro w' hSw; go_simp <;> with_reducible rfl
      simp only [Act.put, List.setIfInBounds_toArray, List.set_cons_zero, List.set_cons_succ]
      refine wpAnyH_yes (i := 14) (d := 14) (v := ?_) rfl rfl (by kernel_rfl) (by kernel_rfl) (by kernel_rfl) (fun _ _ _ h => h) (by rfl) ?_ hb8 ?_
      rotate_left
      · intro w' hSw; go_simp <;> with_reducible rfl
      simp only [Act.put, List.setIfInBounds_toArray, List.set_cons_zero, List.set_cons_succ]
      refine wpAnyH_done (by kernel_rfl) ?_ _
      have HR3 := Lib.hid hr3
      have HR28 := Lib.hid (HR2.out.below hb8)
      have HRA8 := Lib.hid (HRA4.out.below hb8)
      have HB8 := Lib.hid (below_next HB4.out (Nat.le_refl _) hb8)
      clear hb5 hO5 hb6 hb6' hO6 hb7 hb7' hO7 hhd hct hS0 hb8 hMk hr3 hr7 hc7 HR2 HRA4 HB4
      by_cases h0 : cd = 0
      · subst h0
        have hmn : m = n := by rw [← HM.out, (HMA.out.2.1 rfl).length, HN.out]
        subst hmn
        clear hms
        go_wp2_with fail
        go_loopg [15] m (fun g iv wx => ∃ i : Nat, i + g = m ∧ iv = .int .i64 (i : Int) ∧ Hid (Below w8.heap.size w8 wx))
        case atStart => exact ⟨0, by omega, rfl, Below.refl _ _⟩
        case round =>
          obtain ⟨i, hig, rfl, HB9⟩ := hrel
          cases gk with
          | zero =>
            obtain rfl : i = m := by omega
            have hra9 := HRA8.out.below HB9.out
            have hr29 := HR28.out.below HB9.out
            have hr39 := HR3.out.below HB9.out
            have hbw := below_next HB8.out (Nat.le_refl _) HB9.out
            have HWO : Hid (∀ a ∈ out, a.n.length ≤ maxLen ∧ a.t.length ≤ maxLen) := fun a ha => HW.out a ((HMA.out.2.1 rfl).1.mem_iff.1 ha)
            have HRT := Lib.hid HMA.out.right
            clear HRA8 HR28 HR3 HB8 HB9
            go_wp2_with fail
            refine (make_at Aa out i ca HM.out HMB.out HWO.out wr hra9).mono ?_
            intro e w9 hMk
            obtain ⟨A4, c4, rfl, _, hr49, hb9⟩ := makes_again hMk (right_made HRT.out) (.refl _) HM.out
            replace hra9 := hra9.below hb9
            replace hr29 := hr29.below hb9
            replace hr39 := hr39.below hb9
            replace hbw := below_next hbw (Nat.le_refl _) hb9
            clear hMk hb9
            go_wp2_with fail
            refine (same_at Aa A2 out i ca c2 HM.out HMB.out w9 hra9 hr29).mono ?_
            rintro e w10 ⟨rfl, hb9⟩
            replace hra9 := hra9.below hb9
            replace hr39 := hr39.below hb9
            replace hr49 := hr49.below hb9
            replace hbw := below_next hbw (Nat.le_refl _) hb9
            clear hb9 hr29
            go_wp2_with fail
            refine (same_at Aa A3 out i ca c3 HM.out HMB.out w10 hra9 hr39).mono ?_
            rintro e w11 ⟨rfl, hb9⟩
            replace hra9 := hra9.below hb9
            replace hr49 := hr49.below hb9
            replace hbw := below_next hbw (Nat.le_refl _) hb9
            clear hb9 hr39
            go_wp2_with fail
            refine (same_at Aa A4 out i ca c4 HM.out HMB.out w11 hra9 hr49).mono ?_
            rintro e w12 ⟨rfl, hb9⟩
            replace hra9 := hra9.below hb9
            replace hbw := below_next hbw (Nat.le_refl _) hb9
            clear hb9 hr49
            go_wp2_with fail
            refine (right_is Aa out i ca HM.out HMB.out HWO.out true (decide_eq_true HRT.out) w12 hra9).mono ?_
            rintro e w13 ⟨rfl, hb9⟩
            go_wp2_with fail
            go_ret
            exact ⟨rfl, below_next hbw (Nat.le_refl _) hb9⟩
          | succ gq =>
            have hi' : i < es.length := by rw [HN.out]; omega
            have hbw := below_next HB8.out (Nat.le_refl _) HB9.out
            obtain ⟨g, off, rfl, hg, hC⟩ := (HRD.out.below hbw).at_ hi'
            have hfd := made_find HMA.out (List.getElem_mem hi')
            obtain ⟨z, hz⟩ : ∃ z, es[i] = z := ⟨_, rfl⟩
            rw [hz] at hC hfd
            clear hz
            obtain ⟨zn, zk, zi, zt⟩ := z
            have HFD := Lib.hid hfd
            have HCZ := Lib.hid hC
            have c0 := hC.1
            simp only at c0
            clear hC hfd
            have hi1 : (i : Int) < (m : Int) := by omega
            have hra9 := HRA8.out.below HB9.out
            go_wp2_with fail
            refine (get_some Aa out m ca HM.out HMB.out zn zn zk zi zt HFD.out wr hra9).mono ?_
            rintro e w9 ⟨rfl, hb9⟩
            have hb10 := below_next hb9 (Nat.le_refl _) (below_cells w9 #[.int .i64 zk, .int .i64 zi, .string ⟨zt.toArray⟩] 30)
            have hX := Blk.new w9 30 #[.int .i64 zk, .int .i64 zi, .string ⟨zt.toArray⟩]
            clear c0
            go_wp2_with fail
            generalize w9.alloc (.cells #[.int .i64 zk, .int .i64 zi, .string ⟨zt.toArray⟩] 30) = w10 at *
            generalize w9.heap.size = x9 at *
            have hC10 := HCZ.out.below hb10 hg
            have hg10 : g < w10.heap.size := Nat.lt_of_lt_of_le hg hb10.size
            have HB10 := Lib.hid (below_next HB9.out (Nat.le_refl _) hb10)
            have d1 := fun n os => (hC10.grow4 hg10 n os).2.1
            have d2 := fun n os => (hC10.grow4 hg10 n os).2.2.1
            have d3 := fun n os => (hC10.grow4 hg10 n os).2.2.2
            simp only at d1 d2 d3
            have x0 := fun n os => cell_grown (w := w10) (a := ⟨x9, 0, none⟩) hX.lt (hX.cell 0) n os
            have x1 := fun n os => cell_grown (w := w10) (a := ⟨x9, 1, none⟩) hX.lt (hX.cell 1) n os
            have x2 := fun n os => cell_grown (w := w10) (a := ⟨x9, 2, none⟩) hX.lt (hX.cell 2) n os
            simp at x0 x1 x2
            have hG := eqGuardV
            clear hX hC10 hb9 hb10 hra9 hbw HB9
            (refine hq_region mixedT (by kernel_rfl) ?_; (repeat (refine hq_step (fun K hK => ?_); go_simp; first | (refine hK _ ?_; clear hK K) | (apply Exists.intro; refine ⟨fun _ => ?_, hK _ ?_⟩; (fail); clear hK K))); refine hq_nil ?_; intro _ hw'; obtain ⟨⟨nq, osq⟩, hw''⟩ := hw'; subst hw'')
            go_wp2_with fail
            go_roundg gq
            case measure => omega
            case rel => exact ⟨i + 1, by omega, by go_num, below_next HB10.out (Nat.le_refl _) ((Grown.refl _).more _ _).below⟩
      · have hme : m = 0 := by rw [← HM.out, HMA.out.2.2 h0]; rfl
        subst hme
        have hcd : (cd == 0) = false := by simpa using h0
        have hcd2 : (cd != 0) = true := by simpa using h0
        clear h0 hms
        go_wp2_with fail
        go_ret
        exact ⟨rfl, HB8.out⟩
set_option maxRecDepth 100000 in
set_option maxHeartbeats 1000000 in
theorem orders_out (w : World) (A : Option Addr) (es : List At) (n c : Nat) (hl : es.length = n) (hc : n ≤ c) (hm : c ≤ maxLen) (rd : RdA w A es) (hw : ∀ a ∈ es, a.n.length ≤ maxLen ∧ a.t.length ≤ maxLen) (p : Int) (h : ¬ Few es ∨ p < 0 ∨ (n : Int) < p) :
    Calls Try.prog 5 #[.slice A n c, .int .i64 p] w fun e w' => e = .returned (.bool true) ∧ Below w.heap.size w w' := by
  have hnm : Hid (n ≤ maxLen) := Nat.le_trans hc hm
  have HN := Lib.hid hl
  have HW := Lib.hid hw
  clear hl hc hm hw
  go_enter Try.func5, Try.ntmps5
  go_wp2_with fail
  refine (small_any w).mono ?_
  rintro e w1 ⟨rfl, hb1⟩
  have rd1 := rd.below hb1
  clear rd
  go_wp2_with fail
  by_cases hF : Few es
  · refine (few_is A es n c HN.out hnm.out HW.out true (decide_eq_true hF) w1 rd1).mono ?_
    rintro e w2 ⟨rfl, rfl⟩
    by_cases h1 : p < 0
    · have q1 : decide (p < 0) = true := decide_eq_true h1
      clear h h1 hF
      go_wp2_with fail
      go_ret
      exact ⟨rfl, hb1⟩
    · have q1 : decide (p < 0) = false := decide_eq_false h1
      have q2 : decide ((n : Int) < p) = true := decide_eq_true (by rcases h with h | h | h <;> first | exact absurd hF h | exact absurd h h1 | exact h)
      clear h h1 hF
      go_wp2_with fail
      go_ret
      exact ⟨rfl, hb1⟩
  · refine (few_is A es n c HN.out hnm.out HW.out false (decide_eq_false hF) w1 rd1).mono ?_
    rintro e w2 ⟨rfl, rfl⟩
    clear hF h
    go_wp2_with fail
    go_ret
    exact ⟨rfl, hb1⟩
theorem walk_EventOrders (w : World) (A : Option Addr) (es : List At) (n c : Nat) (hl : es.length = n) (hc : n ≤ c) (hm : c ≤ maxLen) (rd : RdA w A es) (hw : ∀ a ∈ es, a.n.length ≤ maxLen ∧ a.t.length ≤ maxLen) (p : Int) (_ : (Lit.int .i64 p).wf = true) :
    Calls Try.prog 5 #[.slice A n c, .int .i64 p] w fun e w' => e = .returned (.bool true) ∧ Below w.heap.size w w' := by
  by_cases h : ¬ Few es ∨ p < 0 ∨ (n : Int) < p
  · exact orders_out w A es n c hl hc hm rd hw p h
  · obtain ⟨k, rfl⟩ := Int.eq_ofNat_of_zero_le (show 0 ≤ p by omega)
    have h1 : Few es := Decidable.of_not_not fun hn => h (.inl hn)
    exact orders_in w A es n c hl hc hm rd hw h1 k (by omega)

/-! ### The row's step. -/
namespace eventOrders
theorem own : ownKnob Try.prog.godebug = none := by kernel_rfl
theorem laidOut : laidOutB Try.prog = true := by kernel_rfl
set_option linter.unusedVariables false in
set_option maxRecDepth 100000 in
theorem lifted (os : Os) (started : os.Started) (H : Type) (enc : TypeId × Value → H) :
    ReturnsInHanded {} Try.checked os 5 .any (Rows.eventOrdersSpec.pre6 enc Try.prog Try.f5 Rows.eventOrdersRow.domain false) (Rows.eventOrdersSpec.post enc Try.prog Try.f5 false true false false) := by
  refine returnsInHanded_of_change_sized (C := Try.checked) own started (by kernel_rfl) Try.func5
    (ChangeSpec.witness6 (enc := enc) (C := Try.checked) false ⟨#[], #[.slice none 0 0, .int .i64 0], []⟩ 8 (by kernel_rfl) (by kernel_rfl) (by kernel_rfl) (by kernel_rfl)) ?_
  intro W base args ds gs before hval0 hW hcnd hsz0 _
  have hval : ∀ (j : Nat) t v, Try.f5.params[j]? = some t → args[j]? = some v → Value.okWide Try.prog W .any base t v := hval0
  have hsz : (DataW.weightsEach Try.prog (Try.f5.params.toList ++ Rows.eventOrdersSpec.plain.varTypes Try.prog) (ds ++ gs)).all (· ≤ reachBytes) = true := hsz0
  have hW' := hW
  obtain ⟨p, q, hA0, hV, rfl, hfz, hnd⟩ := hW
  have hA : DataW.TrodAll enc Try.prog W 0 (fun _ => true) true Try.f5.params.toList args.toList ds p := hA0
  rw [Try.params5] at hA hval hsz
  obtain ⟨v0, vs0, d0, ds0, p0, q0, hargs, rfl, rfl, h0, r0⟩ := trodAll_cons hA
  obtain ⟨v1, vs1, d1, ds1, p1, q1, rfl, rfl, rfl, h1, r1⟩ := trodAll_cons r0
  obtain ⟨rfl, rfl, rfl⟩ := trodAll_nil r1
  obtain rfl : args = #[v0, v1] := by cases args; simp_all
  obtain ⟨rfl, rfl⟩ := trodVars_none hV
  obtain ⟨a0, len0, cap0, rfl⟩ := okWide_slice Try.underlying22 (hval 0 22 v0 rfl rfl)
  have k0 := h0
  have lt0 : ∀ x ∈ p0, x.block < W.heap.size := by obtain ⟨m, hm⟩ := k0; exact DataW.trod_lt m _ _ _ hm
  obtain ⟨es0, hl0, hc0, hm0, rd0, hw0⟩ := open_attrs_of Try.underlying22 Try.underlying32 (by kernel_rfl) ⟨rfl, rfl, by kernel_rfl⟩ ⟨rfl, rfl, by kernel_rfl⟩ Try.underlying9 Try.underlying30 ⟨rfl, rfl, by kernel_rfl⟩ ⟨rfl, rfl, by kernel_rfl⟩ ⟨rfl, rfl, by kernel_rfl⟩ Try.underlying3 Try.underlying3 Try.underlying9 k0
  obtain ⟨a1, rfl, rfl, rfl, w1⟩ := open_int Try.underlying3 (hval 1 3 v1 rfl rfl) h1
  clear hA0 hval0
  refine (walk_EventOrders W a0 es0 len0 cap0 hl0 hc0 hm0 rd0 hw0 a1 w1).mono fun e W' ⟨he, bel⟩ => ?_
  subst he
  exact ⟨_, rfl, _, _, _, [], _, [], hW', trodAll_mk1 (shut_bool Try.underlying4 _), (trodAll_cons_mk (Below.trod laidOut (by kernel_rfl) (of_decide_eq_true (by kernel_rfl)) k0 bel lt0) (trodAll_cons_mk (shut_int Try.underlying3 w1) trodAll_mk0)), rfl, bel.frame _, fun h => by cases h⟩
theorem over : Rows.eventOrdersRow.holds Try.pinned (OpenSpec.ofChange Rows.eventOrdersSpec) :=
  OpenClaim.holds_of_wide 5 Try.f5 rfl rfl rfl rfl rfl rfl rfl ⟨rfl, rfl, rfl, rfl, rfl⟩ rfl rfl rfl rfl rfl (by kernel_rfl) Try.func5 (by kernel_rfl)
    (of_decide_eq_true (by kernel_rfl)) (by unfold Func.isWrapper; first | (rw [if_pos (by decide +kernel)]; kernel_rfl) | (rw [if_neg (by decide +kernel)]; exact ⟨rfl, rfl⟩))
    (fun os started H enc _ => lifted os started H enc)
end eventOrders
/-- THE STATEMENT. -/
theorem eventOrders_holds : Rows.EventOrdersSaid := eventOrders.over
#print axioms eventOrders_holds
end Go.Proofs.Ytmecacgiakbclaa
