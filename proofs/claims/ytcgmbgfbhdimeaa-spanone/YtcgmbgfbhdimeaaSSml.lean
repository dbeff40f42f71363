/- The small case of layer 7: the program comes out right. -/
import Derived.Test.YtcgmbgfbhdimeaaSSmlM
namespace Go.Proofs.Ytcgmbgfbhdimeaa
open Go.RowKit Go.Sort Spans Op
theorem refSame_is (K lo hi : Int) (f t : List UInt8) (o : Bool) (A : Option Addr) (n c : Nat) (K' lo' hi' : Int) (f' t' : List UInt8) (o' : Bool) (A' : Option Addr) (n' c' : Nat) (w : World) (es fs : List Val) (hn : es.length = n) (hm : n ≤ 100000) (hn' : fs.length = n') (hm' : n' ≤ 100000) (hr : RdW w A es) (hr' : RdW w A' fs) (b : Bool) (hb : decide ((⟨K, lo, hi, f, t, o, es⟩ : Sp) = ⟨K', lo', hi', f', t', o', fs⟩) = b) :
    Calls Try.prog 14 #[spF K lo hi f t o A n c, spF K' lo' hi' f' t' o' A' n' c'] w fun e w' => e = .returned (.bool b) ∧ Grown w w' := by
  subst hb; exact refSame_at K lo hi f t o A n c K' lo' hi' f' t' o' A' n' c' w es fs hn hm hn' hm' hr hr'
theorem has_is (K lo hi : Int) (f t : List UInt8) (o : Bool) (A : Option Addr) (n c : Nat) (a : Sp) (ha : a = ⟨K, lo, hi, f, t, o, a.no⟩) (hc : Canon a) (k i : Int) (x : List UInt8) (w : World) (hn : a.no.length = n) (hm : n ≤ 100000) (hx : x.length ≤ 9223372036854775807) (h1 : -9223372036854775808 ≤ i) (h2 : i ≤ 9223372036854775807) (hr : RdW w A a.no) (b : Bool) (hb : has a ⟨k, i, x⟩ = b) :
    Calls Try.prog 18 #[spF K lo hi f t o A n c, .agg #[.int .i64 k, .int .i64 i, .string ⟨x.toArray⟩]] w fun e w' => e = .returned (.bool b) ∧ Grown w w' := by
  have h := has_at a hc A n c ⟨k, i, x⟩ w hn hm hx h1 h2 hr b hb
  rw [ha] at h
  exact h
theorem in_is (K lo hi : Int) (f t : List UInt8) (o : Bool) (A : Option Addr) (n c : Nat) (a : Sp) (ha : a = ⟨K, lo, hi, f, t, o, a.no⟩) (K' lo' hi' : Int) (f' t' : List UInt8) (o' : Bool) (A' : Option Addr) (n' c' : Nat) (b : Sp) (hb : b = ⟨K', lo', hi', f', t', o', b.no⟩) (hca : Canon a) (hcb : Canon b) (w : World) (hn : a.no.length = n) (hm : n ≤ 1000) (hn' : b.no.length = n') (hm' : n' ≤ 1000) (hr : RdW w A a.no) (hr' : RdW w A' b.no) (q : Bool) (hq : inn a b = q) :
    Calls Try.prog 16 #[spF K lo hi f t o A n c, spF K' lo' hi' f' t' o' A' n' c'] w fun e w' => e = .returned (.bool q) ∧ Below w.heap.size w w' := by
  have h := in_at a b hca hcb A n c A' n' c' w hn hm hn' hm' hr hr' q hq
  rw [ha, hb] at h
  exact h
theorem dI : decide ((⟨1, 4, 5, [], [], false, []⟩ : Sp) = ⟨1, 4, 5, [], [], false, []⟩) = true := by decide
theorem dT : decide ((⟨2, 0, 0, [97, 255, 0], [98], false, []⟩ : Sp) = ⟨2, 0, 0, [97, 255, 0], [98], false, []⟩) = true := by decide
theorem boundI : ∀ p ∈ aI, p.n.length ≤ 100 ∧ p.t.length ≤ 100 ∧ -9223372036854775808 ≤ p.i ∧ p.i ≤ 9223372036854775807 := by decide
theorem boundT : ∀ p ∈ aT, p.n.length ≤ 100 ∧ p.t.length ≤ 100 ∧ -9223372036854775808 ≤ p.i ∧ p.i ≤ 9223372036854775807 := by decide
theorem boundIT : ∀ p ∈ aI ++ aT, p.n.length ≤ 100 ∧ p.t.length ≤ 100 ∧ -9223372036854775808 ≤ p.i ∧ p.i ≤ 9223372036854775807 := by decide
set_option maxRecDepth 100000 in
set_option maxHeartbeats 8000000 in
theorem small_at (w : World) : Calls Try.prog 9 #[] w fun e w' => e = .returned (.bool true) ∧ Below w.heap.size w w' := by
  have hb0 : Below w.heap.size w ((w.alloc (.cells #[.string ⟨#[97]⟩, .int .i64 6, .int .i64 1, .int .i64 3, .string ⟨#[]⟩, .string ⟨#[97]⟩, .int .i64 3, .int .i64 1, .int .i64 6, .string ⟨#[]⟩, .string ⟨#[97]⟩, .int .i64 2, .int .i64 1, .int .i64 3, .string ⟨#[]⟩] 40)).alloc (.cells #[.string ⟨#[97]⟩, .int .i64 7, .int .i64 2, .int .i64 0, .string ⟨#[97, 255]⟩, .string ⟨#[97]⟩, .int .i64 2, .int .i64 2, .int .i64 0, .string ⟨#[97, 255]⟩] 40)) := (gr2 w _ _).below
  have hq1 : RdQ ((w.alloc (.cells #[.string ⟨#[97]⟩, .int .i64 6, .int .i64 1, .int .i64 3, .string ⟨#[]⟩, .string ⟨#[97]⟩, .int .i64 3, .int .i64 1, .int .i64 6, .string ⟨#[]⟩, .string ⟨#[97]⟩, .int .i64 2, .int .i64 1, .int .i64 3, .string ⟨#[]⟩] 40)).alloc (.cells #[.string ⟨#[97]⟩, .int .i64 7, .int .i64 2, .int .i64 0, .string ⟨#[97, 255]⟩, .string ⟨#[97]⟩, .int .i64 2, .int .i64 2, .int .i64 0, .string ⟨#[97, 255]⟩] 40)) (some ⟨w.heap.size, 0, none⟩) aI := RdK.below (rdk_lit layP w aI 40 #[.string ⟨#[97]⟩, .int .i64 6, .int .i64 1, .int .i64 3, .string ⟨#[]⟩, .string ⟨#[97]⟩, .int .i64 3, .int .i64 1, .int .i64 6, .string ⟨#[]⟩, .string ⟨#[97]⟩, .int .i64 2, .int .i64 1, .int .i64 3, .string ⟨#[]⟩] rfl) ((Below.refl _ _).alloc (Nat.le_refl _) _)
  have hq2 : RdQ ((w.alloc (.cells #[.string ⟨#[97]⟩, .int .i64 6, .int .i64 1, .int .i64 3, .string ⟨#[]⟩, .string ⟨#[97]⟩, .int .i64 3, .int .i64 1, .int .i64 6, .string ⟨#[]⟩, .string ⟨#[97]⟩, .int .i64 2, .int .i64 1, .int .i64 3, .string ⟨#[]⟩] 40)).alloc (.cells #[.string ⟨#[97]⟩, .int .i64 7, .int .i64 2, .int .i64 0, .string ⟨#[97, 255]⟩, .string ⟨#[97]⟩, .int .i64 2, .int .i64 2, .int .i64 0, .string ⟨#[97, 255]⟩] 40)) (some ⟨w.heap.size + 1, 0, none⟩) aT := by
    have h := rdk_lit layP (w.alloc (.cells #[.string ⟨#[97]⟩, .int .i64 6, .int .i64 1, .int .i64 3, .string ⟨#[]⟩, .string ⟨#[97]⟩, .int .i64 3, .int .i64 1, .int .i64 6, .string ⟨#[]⟩, .string ⟨#[97]⟩, .int .i64 2, .int .i64 1, .int .i64 3, .string ⟨#[]⟩] 40)) aT 40 #[.string ⟨#[97]⟩, .int .i64 7, .int .i64 2, .int .i64 0, .string ⟨#[97, 255]⟩, .string ⟨#[97]⟩, .int .i64 2, .int .i64 2, .int .i64 0, .string ⟨#[97, 255]⟩] rfl
    rw [show (w.alloc (.cells #[.string ⟨#[97]⟩, .int .i64 6, .int .i64 1, .int .i64 3, .string ⟨#[]⟩, .string ⟨#[97]⟩, .int .i64 3, .int .i64 1, .int .i64 6, .string ⟨#[]⟩, .string ⟨#[97]⟩, .int .i64 2, .int .i64 1, .int .i64 3, .string ⟨#[]⟩] 40)).heap.size = w.heap.size + 1 by simp] at h
    exact h
  go_enter Try.func9, Try.ntmps9
  go_wp2_with fail
  generalize ((w.alloc (.cells #[.string ⟨#[97]⟩, .int .i64 6, .int .i64 1, .int .i64 3, .string ⟨#[]⟩, .string ⟨#[97]⟩, .int .i64 3, .int .i64 1, .int .i64 6, .string ⟨#[]⟩, .string ⟨#[97]⟩, .int .i64 2, .int .i64 1, .int .i64 3, .string ⟨#[]⟩] 40)).alloc (.cells #[.string ⟨#[97]⟩, .int .i64 7, .int .i64 2, .int .i64 0, .string ⟨#[97, 255]⟩, .string ⟨#[97]⟩, .int .i64 2, .int .i64 2, .int .i64 0, .string ⟨#[97, 255]⟩] 40)) = w0 at *
  refine (fold_at (some ⟨w.heap.size, 0, none⟩) aI 3 3 rfl (by omega) boundI w0 hq1).mono ?_
  rintro e w1 ⟨⟨rK, rlo, rhi, rf, rt, ro, rno⟩, hall, _, X1, n1, d1, rfl, hl1, _, _, hb1⟩
  have er := hall.one allI
  unfold spI at er
  injection er with q1 q2 q3 q4 q5 q6 q7
  subst q1; subst q2; subst q3; subst q4; subst q5; subst q6; subst q7
  have en : n1 = 0 := hl1.symm
  subst en
  clear hall hl1
  have hV3 : Blk (w1.alloc (.cells #[.int .i64 1, .int .i64 4, .int .i64 5, .string ⟨#[]⟩, .string ⟨#[]⟩, .bool false, .slice X1 0 d1] 29)) w1.heap.size 29 #[.int .i64 1, .int .i64 4, .int .i64 5, .string ⟨#[]⟩, .string ⟨#[]⟩, .bool false, .slice X1 0 d1] := Blk.new _ _ _
  have hb2 : Below w1.heap.size w1 (w1.alloc (.cells #[.int .i64 1, .int .i64 4, .int .i64 5, .string ⟨#[]⟩, .string ⟨#[]⟩, .bool false, .slice X1 0 d1] 29)) := (Below.refl _ _).alloc (Nat.le_refl _) _
  have hB2 := below_next (below_next hb0 (Nat.le_refl _) hb1) (Nat.le_refl _) hb2
  have hq1b := (hq1.below hb1).below hb2
  have hq2b := (hq2.below hb1).below hb2
  clear hb0 hb1 hb2 hq1 hq2
  go_wp2_with fail
  generalize w1.alloc (.cells #[.int .i64 1, .int .i64 4, .int .i64 5, .string ⟨#[]⟩, .string ⟨#[]⟩, .bool false, .slice X1 0 d1] 29) = w2 at *
  generalize w1.heap.size = V3 at *
  refine (fold_at (some ⟨w.heap.size + 1, 0, none⟩) aT 2 2 rfl (by omega) boundT w2 hq2b).mono ?_
  rintro e w3 ⟨⟨rK, rlo, rhi, rf, rt, ro, rno⟩, hall, _, X2, n2, d2, rfl, hl2, _, _, hb3⟩
  have er := hall.one allT
  unfold spT at er
  injection er with q1 q2 q3 q4 q5 q6 q7
  subst q1; subst q2; subst q3; subst q4; subst q5; subst q6; subst q7
  have en : n2 = 0 := hl2.symm
  subst en
  clear hall hl2
  have hV4 : Blk (w3.alloc (.cells #[.int .i64 2, .int .i64 0, .int .i64 0, .string ⟨#[97, 255, 0]⟩, .string ⟨#[98]⟩, .bool false, .slice X2 0 d2] 29)) w3.heap.size 29 #[.int .i64 2, .int .i64 0, .int .i64 0, .string ⟨#[97, 255, 0]⟩, .string ⟨#[98]⟩, .bool false, .slice X2 0 d2] := Blk.new _ _ _
  have hb4 : Below w3.heap.size w3 (w3.alloc (.cells #[.int .i64 2, .int .i64 0, .int .i64 0, .string ⟨#[97, 255, 0]⟩, .string ⟨#[98]⟩, .bool false, .slice X2 0 d2] 29)) := (Below.refl _ _).alloc (Nat.le_refl _) _
  have hB4 := below_next (below_next hB2 (Nat.le_refl _) hb3) (Nat.le_refl _) hb4
  have hq1c := (hq1b.below hb3).below hb4
  have hq2c := (hq2b.below hb3).below hb4
  have hV3b := Blk.below (Blk.below hV3 hb3 hV3.lt) hb4 (Nat.lt_of_lt_of_le hV3.lt hb3.size)
  have hwe : Below w3.heap.size w3 (w3.alloc (.cells #[.int .i64 2, .int .i64 0, .int .i64 0, .string ⟨#[97, 255, 0]⟩, .string ⟨#[98]⟩, .bool false, .slice X2 0 d2] 29)) := hb4
  clear hb3 hb4 hB2 hq1b hq2b hV3
  have hwz : (w3.alloc (.cells #[.int .i64 2, .int .i64 0, .int .i64 0, .string ⟨#[97, 255, 0]⟩, .string ⟨#[98]⟩, .bool false, .slice X2 0 d2] 29)).heap.size = w3.heap.size + 1 := by simp
  have ho5 : OwnQ ((w3.alloc (.cells #[.int .i64 2, .int .i64 0, .int .i64 0, .string ⟨#[97, 255, 0]⟩, .string ⟨#[98]⟩, .bool false, .slice X2 0 d2] 29)).alloc (.cells #[] 40)) (w3.heap.size + 1) (.slice (some ⟨w3.heap.size + 1, 0, none⟩) 0 0) [] := by
    have h := OwnK.empty (L := layP) (w3.alloc (.cells #[.int .i64 2, .int .i64 0, .int .i64 0, .string ⟨#[97, 255, 0]⟩, .string ⟨#[98]⟩, .bool false, .slice X2 0 d2] 29)) (w3.heap.size + 1) (by simp)
    rw [hwz] at h
    exact h
  have hb5 : Below (w3.heap.size + 1) (w3.alloc (.cells #[.int .i64 2, .int .i64 0, .int .i64 0, .string ⟨#[97, 255, 0]⟩, .string ⟨#[98]⟩, .bool false, .slice X2 0 d2] 29)) ((w3.alloc (.cells #[.int .i64 2, .int .i64 0, .int .i64 0, .string ⟨#[97, 255, 0]⟩, .string ⟨#[98]⟩, .bool false, .slice X2 0 d2] 29)).alloc (.cells #[] 40)) := (Below.refl _ _).alloc (by simp) _
  have hq1d := hq1c.below (hwz ▸ hb5)
  have hq2d := hq2c.below (hwz ▸ hb5)
  go_wp2_with (first
    | (at_builtin; refine wpList_append_k layP (by rfl) (.tmp 25) (.tmp 26) 22 underQ rfl (w3.heap.size + 1) _ [] (by rfl) ho5 (some ⟨w.heap.size, 0, none⟩) aI 3 3 (by rfl) hq1d rfl (by rw [maxLen_num]; decide) (by decide) (by simp; try omega) ?_; intro v6 w6 o6 b6 _ _; rw [List.nil_append] at o6; have hb6 := b6 _ hb5; have hq2e := hq2c.below (hwz ▸ hb6); clear b6)
    | (at_builtin; refine wpList_append_k layP (by rfl) (.tmp 27) (.tmp 28) 22 underQ rfl (w3.heap.size + 1) v6 aI (by rfl) o6 (some ⟨w.heap.size + 1, 0, none⟩) aT 2 2 (by rfl) hq2e rfl (by rw [maxLen_num]; decide) (by decide) (by have := hb6.size; rw [hwz] at this; exact this) ?_; intro v7 w7 o7 b7 _ _; have hb7 := b7 _ hb6; clear b7; obtain ⟨B7, c7, rfl, hc7, hq7⟩ := OwnK.form o7 (n := 5) rfl))
  have hb7' := hwz ▸ hb7
  have hV3c := Blk.below hV3b hb7 (by have := hV3b.lt; rw [hwz] at this; exact this)
  have hV4c := Blk.below hV4 hb7 (by omega)
  have hB7 := below_next hB4 (Nat.le_refl _) (hwz.symm ▸ hb7)
  clear hq1c hq2c hq1d hq2d hV3b hV4 hB4 hb5 hb6 hb7 hb7' hq2e o6 o7 ho5 hwe
  generalize w3.heap.size = V4 at *
  clear hwz
  refine (fold_at B7 (aI ++ aT) 5 c7 rfl (by omega) boundIT w7 hq7).mono ?_
  rintro e w8 ⟨⟨rK, rlo, rhi, rf, rt, ro, rno⟩, hall, _, X3, n3, d3, rfl, hl3, _, _, hb8⟩
  have er := hall.one allIT
  unfold none_ at er
  injection er with q1 q2 q3 q4 q5 q6 q7
  subst q1; subst q2; subst q3; subst q4; subst q5; subst q6; subst q7
  have en : n3 = 0 := hl3.symm
  subst en
  clear hall hl3 hq7
  have hV5 : Blk (w8.alloc (.cells #[.int .i64 0, .int .i64 0, .int .i64 0, .string ⟨#[]⟩, .string ⟨#[]⟩, .bool false, .slice X3 0 d3] 29)) w8.heap.size 29 #[.int .i64 0, .int .i64 0, .int .i64 0, .string ⟨#[]⟩, .string ⟨#[]⟩, .bool false, .slice X3 0 d3] := Blk.new _ _ _
  have hb9 : Below w8.heap.size w8 (w8.alloc (.cells #[.int .i64 0, .int .i64 0, .int .i64 0, .string ⟨#[]⟩, .string ⟨#[]⟩, .bool false, .slice X3 0 d3] 29)) := (Below.refl _ _).alloc (Nat.le_refl _) _
  have hB9 := below_next (below_next hB7 (Nat.le_refl _) hb8) (Nat.le_refl _) hb9
  have hV3d := Blk.below (Blk.below hV3c hb8 hV3c.lt) hb9 (Nat.lt_of_lt_of_le hV3c.lt hb8.size)
  have hV4d := Blk.below (Blk.below hV4c hb8 hV4c.lt) hb9 (Nat.lt_of_lt_of_le hV4c.lt hb8.size)
  clear hB7 hb8 hb9 hV3c hV4c
  obtain ⟨a0, a1, a2, a3, a4, a5, a6, _⟩ := blk7 hV3d
  have hla := hV3d.lt
  go_wp2_with fail
  clear a0 a1 a2 a3 a4 a5 a6 hla
  generalize w8.alloc (.cells #[.int .i64 0, .int .i64 0, .int .i64 0, .string ⟨#[]⟩, .string ⟨#[]⟩, .bool false, .slice X3 0 d3] 29) = w9 at *
  generalize w8.heap.size = V5 at *
  refine (preds_at [97] spI (.inr (.inr (.inl canI))) X1 0 d1 w9 rfl (by omega) (.inl rfl) (by decide) _ prsI).mono ?_
  rintro e wa ⟨va, rfl, hoa, hba⟩
  obtain ⟨Ba, ca, rfl, hca, hra⟩ := OwnK.form hoa (n := 2) rfl
  have hV3e := Blk.below hV3d hba hV3d.lt
  have hV4e := Blk.below hV4d hba hV4d.lt
  have hV5e := Blk.below hV5 hba hV5.lt
  have hBa := below_next hB9 (Nat.le_refl _) hba
  clear hV3d hV4d hV5 hB9 hba hoa
  obtain ⟨a0, a1, a2, a3, a4, a5, a6, _⟩ := blk7 hV4e
  have hla := hV4e.lt
  go_wp2_with fail
  clear a0 a1 a2 a3 a4 a5 a6 hla
  refine (preds_at [97] spT (.inr (.inr (.inr canT))) X2 0 d2 wa rfl (by omega) (.inl rfl) (by decide) _ prsT).mono ?_
  rintro e wb ⟨vb, rfl, hob, hbb⟩
  obtain ⟨Bb, cb, rfl, hcb, hrb⟩ := OwnK.form hob (n := 2) rfl
  have hra2 := hra.below hbb
  have hV3f := Blk.below hV3e hbb hV3e.lt
  have hV4f := Blk.below hV4e hbb hV4e.lt
  have hV5f := Blk.below hV5e hbb hV5e.lt
  have hBb := below_next hBa (Nat.le_refl _) hbb
  clear hV3e hV4e hV5e hBa hbb hob hra
  go_wp2_with fail
  refine (all_at wb).mono ?_
  rintro e wc ⟨rfl, hgc⟩
  go_wp2_with fail
  refine (preds_at [97] any_ (.inr (.inl rfl)) none 0 0 wc rfl (by omega) (.inl rfl) (by decide) _ prsA).mono ?_
  rintro e wd ⟨vd, rfl, hod, hbd⟩
  obtain ⟨Bd, cd, rfl, hcd, hrd⟩ := OwnK.form hod (n := 1) rfl
  have hbcd := below_next hgc.below (Nat.le_refl _) hbd
  have hra3 := hra2.below hbcd
  have hrb3 := hrb.below hbcd
  have hV3g := Blk.below hV3f hbcd hV3f.lt
  have hV4g := Blk.below hV4f hbcd hV4f.lt
  have hV5g := Blk.below hV5f hbcd hV5f.lt
  have hBd := below_next hBb (Nat.le_refl _) hbcd
  clear hV3f hV4f hV5f hBb hbcd hgc hbd hra2 hrb hod
  go_wp2_with fail
  have hnI : ∀ W, RdW W X1 spI.no := fun W => .inl rfl
  have hnA : ∀ W, RdW W none any_.no := fun W => .inl rfl
  have cI : Canon spI := .inr (.inr (.inl canI))
  have cA : Canon any_ := .inr (.inl rfl)
  have haI : spI = ⟨1, 4, 5, [], [], false, spI.no⟩ := rfl
  have haA : any_ = ⟨4, 0, 0, [], [], false, any_.no⟩ := rfl
  have hlI : spI.no.length = 0 := rfl
  have hlA : any_.no.length = 0 := rfl
  have b1 : ([] : List UInt8).length ≤ 9223372036854775807 := by decide
  have b2 : (-9223372036854775808 : Int) ≤ 5 := by decide
  have b3 : (5 : Int) ≤ 9223372036854775807 := by decide
  have b4 : (-9223372036854775808 : Int) ≤ 6 := by decide
  have b5 : (6 : Int) ≤ 9223372036854775807 := by decide
  have h5 : has spI ⟨1, 5, []⟩ = true := by decide
  have h6 : has spI ⟨1, 6, []⟩ = false := by decide
  have z1 : ([] : List Val).length = 0 := rfl
  have hS0 : Below wd.heap.size wd wd.drew := (Below.refl _ _).drew
  refine wp_region_held_drew (S := fun w' => Below wd.heap.size wd w') (by kernel_rfl) hS0 (fun _ => ?_)
  generalize wd.drew = x0 at *
  refine wpAnyH_yes (i := 0) (d := 37) (v := ?_) rfl rfl (by kernel_rfl) (by kernel_rfl) (by kernel_rfl) (fun _ _ _ h => h) (by rfl) ?_ hS0 ?_
  rotate_left
  · intro w' hSw; obtain ⟨s0, s1, s2, s3, s4, s5, s6, _⟩ := blk7 (Blk.below hV3g hSw hV3g.lt); obtain ⟨t0, t1, t2, t3, t4, t5, t6, _⟩ := blk7 (Blk.below hV4g hSw hV4g.lt); obtain ⟨u0, u1, u2, u3, u4, u5, u6, _⟩ := blk7 (Blk.below hV5g hSw hV5g.lt); go_simp <;> with_reducible rfl
  simp only [Act.put, List.setIfInBounds_toArray, List.set_cons_zero, List.set_cons_succ]
  refine wpAnyH_yes (i := 1) (d := 38) (v := ?_) rfl rfl (by kernel_rfl) (by kernel_rfl) (by kernel_rfl) (fun _ _ _ h => h) (by rfl) ?_ hS0 ?_
  rotate_left
  · intro w' hSw; go_simp <;> with_reducible rfl
  simp only [Act.put, List.setIfInBounds_toArray, List.set_cons_zero, List.set_cons_succ]
  refine wpAnyH_one (i := 2) (by kernel_rfl) rfl (by rfl) (fun Ka hKa => ?_)
  go_simp
  with_reducible refine (refSame_is 1 4 5 [] [] false X1 0 d1 1 4 5 [] [] false none 0 0 x0 [] [] z1 (by omega) z1 (by omega) (RdK.nil _ _) (RdK.nil _ _) true dI).mono ?_
  rintro e x1 ⟨rfl, hg1⟩
  have hS1 := below_next hS0 (Nat.le_refl _) hg1.below
  go_wp2_with fail
  refine hKa.out _ _ hS1 ?_
  clear hKa Ka
  refine wpAnyH_yes (i := 3) (d := 40) (v := ?_) rfl rfl (by kernel_rfl) (by kernel_rfl) (by kernel_rfl) (fun _ _ _ h => h) (by rfl) ?_ hS1 ?_
  rotate_left
  · intro w' hSw; go_simp <;> with_reducible rfl
  simp only [Act.put, List.setIfInBounds_toArray, List.set_cons_zero, List.set_cons_succ]
  refine wpAnyH_yes (i := 4) (d := 41) (v := ?_) rfl rfl (by kernel_rfl) (by kernel_rfl) (by kernel_rfl) (fun _ _ _ h => h) (by rfl) ?_ hS1 ?_
  rotate_left
  · intro w' hSw; obtain ⟨s0, s1, s2, s3, s4, s5, s6, _⟩ := blk7 (Blk.below hV3g hSw hV3g.lt); obtain ⟨t0, t1, t2, t3, t4, t5, t6, _⟩ := blk7 (Blk.below hV4g hSw hV4g.lt); obtain ⟨u0, u1, u2, u3, u4, u5, u6, _⟩ := blk7 (Blk.below hV5g hSw hV5g.lt); go_simp <;> with_reducible rfl
  simp only [Act.put, List.setIfInBounds_toArray, List.set_cons_zero, List.set_cons_succ]
  refine wpAnyH_yes (i := 5) (d := 42) (v := ?_) rfl rfl (by kernel_rfl) (by kernel_rfl) (by kernel_rfl) (fun _ _ _ h => h) (by rfl) ?_ hS1 ?_
  rotate_left
  · intro w' hSw; go_simp <;> with_reducible rfl
  simp only [Act.put, List.setIfInBounds_toArray, List.set_cons_zero, List.set_cons_succ]
  refine wpAnyH_one (i := 6) (by kernel_rfl) rfl (by rfl) (fun Ka hKa => ?_)
  go_simp
  with_reducible refine (refSame_is 2 0 0 [97, 255, 0] [98] false X2 0 d2 2 0 0 [97, 255, 0] [98] false none 0 0 x1 [] [] z1 (by omega) z1 (by omega) (RdK.nil _ _) (RdK.nil _ _) true dT).mono ?_
  rintro e x2 ⟨rfl, hg2⟩
  have hS2 := below_next hS1 (Nat.le_refl _) hg2.below
  go_wp2_with fail
  refine hKa.out _ _ hS2 ?_
  clear hKa Ka
  refine wpAnyH_yes (i := 7) (d := 44) (v := ?_) rfl rfl (by kernel_rfl) (by kernel_rfl) (by kernel_rfl) (fun _ _ _ h => h) (by rfl) ?_ hS2 ?_
  rotate_left
  · intro w' hSw; go_simp <;> with_reducible rfl
  simp only [Act.put, List.setIfInBounds_toArray, List.set_cons_zero, List.set_cons_succ]
  refine wpAnyH_yes (i := 8) (d := 45) (v := ?_) rfl rfl (by kernel_rfl) (by kernel_rfl) (by kernel_rfl) (fun _ _ _ h => h) (by rfl) ?_ hS2 ?_
  rotate_left
  · intro w' hSw; go_simp <;> with_reducible rfl
  simp only [Act.put, List.setIfInBounds_toArray, List.set_cons_zero, List.set_cons_succ]
  refine wpAnyH_yes (i := 9) (d := 46) (v := ?_) rfl rfl (by kernel_rfl) (by kernel_rfl) (by kernel_rfl) (fun _ _ _ h => h) (by rfl) ?_ hS2 ?_
  rotate_left
  · intro w' hSw; obtain ⟨s0, s1, s2, s3, s4, s5, s6, _⟩ := blk7 (Blk.below hV3g hSw hV3g.lt); obtain ⟨t0, t1, t2, t3, t4, t5, t6, _⟩ := blk7 (Blk.below hV4g hSw hV4g.lt); obtain ⟨u0, u1, u2, u3, u4, u5, u6, _⟩ := blk7 (Blk.below hV5g hSw hV5g.lt); go_simp <;> with_reducible rfl
  simp only [Act.put, List.setIfInBounds_toArray, List.set_cons_zero, List.set_cons_succ]
  refine wpAnyH_yes (i := 10) (d := 47) (v := ?_) rfl rfl (by kernel_rfl) (by kernel_rfl) (by kernel_rfl) (fun _ _ _ h => h) (by rfl) ?_ hS2 ?_
  rotate_left
  · intro w' hSw; obtain ⟨s0, s1, s2, s3, s4, s5, s6, _⟩ := blk7 (Blk.below hV3g hSw hV3g.lt); obtain ⟨t0, t1, t2, t3, t4, t5, t6, _⟩ := blk7 (Blk.below hV4g hSw hV4g.lt); obtain ⟨u0, u1, u2, u3, u4, u5, u6, _⟩ := blk7 (Blk.below hV5g hSw hV5g.lt); go_simp <;> with_reducible rfl
  simp only [Act.put, List.setIfInBounds_toArray, List.set_cons_zero, List.set_cons_succ]
  refine wpAnyH_yes (i := 11) (d := 48) (v := ?_) rfl rfl (by kernel_rfl) (by kernel_rfl) (by kernel_rfl) (fun _ _ _ h => h) (by rfl) ?_ hS2 ?_
  rotate_left
  · intro w' hSw; obtain ⟨s0, s1, s2, s3, s4, s5, s6, _⟩ := blk7 (Blk.below hV3g hSw hV3g.lt); obtain ⟨t0, t1, t2, t3, t4, t5, t6, _⟩ := blk7 (Blk.below hV4g hSw hV4g.lt); obtain ⟨u0, u1, u2, u3, u4, u5, u6, _⟩ := blk7 (Blk.below hV5g hSw hV5g.lt); go_simp <;> with_reducible rfl
  simp only [Act.put, List.setIfInBounds_toArray, List.set_cons_zero, List.set_cons_succ]
  refine wpAnyH_yes (i := 12) (d := 49) (v := ?_) rfl rfl (by kernel_rfl) (by kernel_rfl) (by kernel_rfl) (fun _ _ _ h => h) (by rfl) ?_ hS2 ?_
  rotate_left
  · intro w' hSw; go_simp <;> with_reducible rfl
  simp only [Act.put, List.setIfInBounds_toArray, List.set_cons_zero, List.set_cons_succ]
  refine wpAnyH_yes (i := 13) (d := 50) (v := ?_) rfl rfl (by kernel_rfl) (by kernel_rfl) (by kernel_rfl) (fun _ _ _ h => h) (by rfl) ?_ hS2 ?_
  rotate_left
  · intro w' hSw; go_simp <;> with_reducible rfl
  simp only [Act.put, List.setIfInBounds_toArray, List.set_cons_zero, List.set_cons_succ]
  refine wpAnyH_yes (i := 14) (d := 51) (v := ?_) rfl rfl (by kernel_rfl) (by kernel_rfl) (by kernel_rfl) (fun _ _ _ h => h) (by rfl) ?_ hS2 ?_
  rotate_left
  · intro w' hSw; go_simp <;> with_reducible rfl
  simp only [Act.put, List.setIfInBounds_toArray, List.set_cons_zero, List.set_cons_succ]
  refine wpAnyH_yes (i := 15) (d := 52) (v := ?_) rfl rfl (by kernel_rfl) (by kernel_rfl) (by kernel_rfl) (fun _ _ _ h => h) (by rfl) ?_ hS2 ?_
  rotate_left
  · intro w' hSw; go_simp <;> with_reducible rfl
  simp only [Act.put, List.setIfInBounds_toArray, List.set_cons_zero, List.set_cons_succ]
  refine wpAnyH_yes (i := 16) (d := 53) (v := ?_) rfl rfl (by kernel_rfl) (by kernel_rfl) (by kernel_rfl) (fun _ _ _ h => h) (by rfl) ?_ hS2 ?_
  rotate_left
  · intro w' hSw; go_simp <;> with_reducible rfl
  simp only [Act.put, List.setIfInBounds_toArray, List.set_cons_zero, List.set_cons_succ]
  refine wpAnyH_yes (i := 17) (d := 54) (v := ?_) rfl rfl (by kernel_rfl) (by kernel_rfl) (by kernel_rfl) (fun _ _ _ h => h) (by rfl) ?_ hS2 ?_
  rotate_left
  · intro w' hSw; go_simp <;> with_reducible rfl
  simp only [Act.put, List.setIfInBounds_toArray, List.set_cons_zero, List.set_cons_succ]
  refine wpAnyH_yes (i := 18) (d := 55) (v := ?_) rfl rfl (by kernel_rfl) (by kernel_rfl) (by kernel_rfl) (fun _ _ _ h => h) (by rfl) ?_ hS2 ?_
  rotate_left
  · intro w' hSw; go_simp <;> with_reducible rfl
  simp only [Act.put, List.setIfInBounds_toArray, List.set_cons_zero, List.set_cons_succ]
  refine wpAnyH_one (i := 19) (by kernel_rfl) rfl (by rfl) (fun Ka hKa => ?_)
  go_simp
  have hS3 : Below wd.heap.size wd (x2.alloc (.cells #[.string ⟨#[97]⟩, .int .i64 6, .int .i64 1, .int .i64 4, .string ⟨#[]⟩, .string ⟨#[97]⟩, .int .i64 4, .int .i64 1, .int .i64 5, .string ⟨#[]⟩] 40)) := hS2.alloc hS2.size _
  have hlit3 : RdQ (x2.alloc (.cells #[.string ⟨#[97]⟩, .int .i64 6, .int .i64 1, .int .i64 4, .string ⟨#[]⟩, .string ⟨#[97]⟩, .int .i64 4, .int .i64 1, .int .i64 5, .string ⟨#[]⟩] 40)) (some ⟨x2.heap.size, 0, none⟩) [⟨[97], 6, 1, 4, []⟩, ⟨[97], 4, 1, 5, []⟩] := rdk_lit layP x2 [⟨[97], 6, 1, 4, []⟩, ⟨[97], 4, 1, 5, []⟩] 40 #[.string ⟨#[97]⟩, .int .i64 6, .int .i64 1, .int .i64 4, .string ⟨#[]⟩, .string ⟨#[97]⟩, .int .i64 4, .int .i64 1, .int .i64 5, .string ⟨#[]⟩] rfl
  refine hKa.out _ _ hS3 ?_
  clear hKa Ka
  generalize x2.alloc (.cells #[.string ⟨#[97]⟩, .int .i64 6, .int .i64 1, .int .i64 4, .string ⟨#[]⟩, .string ⟨#[97]⟩, .int .i64 4, .int .i64 1, .int .i64 5, .string ⟨#[]⟩] 40) = x3 at *
  generalize x2.heap.size = g3 at *
  have hrr3 := RdK.below hra3 hS3
  have hln3 : ([⟨[97], 6, 1, 4, []⟩, ⟨[97], 4, 1, 5, []⟩] : List Pr).length = 2 := rfl
  have hde3 : decide (([⟨[97], 6, 1, 4, []⟩, ⟨[97], 4, 1, 5, []⟩] : List Pr) = [⟨[97], 6, 1, 4, []⟩, ⟨[97], 4, 1, 5, []⟩]) = true := by decide
  refine wpAnyH_one (i := 20) (by kernel_rfl) rfl (by rfl) (fun Ka hKa => ?_)
  go_simp
  with_reducible refine (samePs_at Ba [⟨[97], 6, 1, 4, []⟩, ⟨[97], 4, 1, 5, []⟩] 2 ca hln3 (by omega) (some ⟨g3, 0, none⟩) [⟨[97], 6, 1, 4, []⟩, ⟨[97], 4, 1, 5, []⟩] 2 2 hln3 (by omega) x3 hrr3 hlit3 true hde3).mono ?_
  rintro e x4 ⟨rfl, hg4⟩
  have hS4 := below_next hS3 (Nat.le_refl _) hg4.below
  go_wp2_with fail
  refine hKa.out _ _ hS4 ?_
  clear hKa Ka
  refine wpAnyH_yes (i := 21) (d := 58) (v := ?_) rfl rfl (by kernel_rfl) (by kernel_rfl) (by kernel_rfl) (fun _ _ _ h => h) (by rfl) ?_ hS4 ?_
  rotate_left
  · intro w' hSw; go_simp <;> with_reducible rfl
  simp only [Act.put, List.setIfInBounds_toArray, List.set_cons_zero, List.set_cons_succ]
  refine wpAnyH_yes (i := 22) (d := 59) (v := ?_) rfl rfl (by kernel_rfl) (by kernel_rfl) (by kernel_rfl) (fun _ _ _ h => h) (by rfl) ?_ hS4 ?_
  rotate_left
  · intro w' hSw; go_simp <;> with_reducible rfl
  simp only [Act.put, List.setIfInBounds_toArray, List.set_cons_zero, List.set_cons_succ]
  refine wpAnyH_yes (i := 23) (d := 60) (v := ?_) rfl rfl (by kernel_rfl) (by kernel_rfl) (by kernel_rfl) (fun _ _ _ h => h) (by rfl) ?_ hS4 ?_
  rotate_left
  · intro w' hSw; go_simp <;> with_reducible rfl
  simp only [Act.put, List.setIfInBounds_toArray, List.set_cons_zero, List.set_cons_succ]
  refine wpAnyH_yes (i := 24) (d := 61) (v := ?_) rfl rfl (by kernel_rfl) (by kernel_rfl) (by kernel_rfl) (fun _ _ _ h => h) (by rfl) ?_ hS4 ?_
  rotate_left
  · intro w' hSw; go_simp <;> with_reducible rfl
  simp only [Act.put, List.setIfInBounds_toArray, List.set_cons_zero, List.set_cons_succ]
  refine wpAnyH_yes (i := 25) (d := 62) (v := ?_) rfl rfl (by kernel_rfl) (by kernel_rfl) (by kernel_rfl) (fun _ _ _ h => h) (by rfl) ?_ hS4 ?_
  rotate_left
  · intro w' hSw; go_simp <;> with_reducible rfl
  simp only [Act.put, List.setIfInBounds_toArray, List.set_cons_zero, List.set_cons_succ]
  refine wpAnyH_yes (i := 26) (d := 63) (v := ?_) rfl rfl (by kernel_rfl) (by kernel_rfl) (by kernel_rfl) (fun _ _ _ h => h) (by rfl) ?_ hS4 ?_
  rotate_left
  · intro w' hSw; go_simp <;> with_reducible rfl
  simp only [Act.put, List.setIfInBounds_toArray, List.set_cons_zero, List.set_cons_succ]
  refine wpAnyH_yes (i := 27) (d := 64) (v := ?_) rfl rfl (by kernel_rfl) (by kernel_rfl) (by kernel_rfl) (fun _ _ _ h => h) (by rfl) ?_ hS4 ?_
  rotate_left
  · intro w' hSw; go_simp <;> with_reducible rfl
  simp only [Act.put, List.setIfInBounds_toArray, List.set_cons_zero, List.set_cons_succ]
  refine wpAnyH_one (i := 28) (by kernel_rfl) rfl (by rfl) (fun Ka hKa => ?_)
  go_simp
  have hS5 : Below wd.heap.size wd (x4.alloc (.cells #[.string ⟨#[97]⟩, .int .i64 5, .int .i64 2, .int .i64 0, .string ⟨#[97, 255]⟩, .string ⟨#[97]⟩, .int .i64 3, .int .i64 2, .int .i64 0, .string ⟨#[98]⟩] 40)) := hS4.alloc hS4.size _
  have hlit5 : RdQ (x4.alloc (.cells #[.string ⟨#[97]⟩, .int .i64 5, .int .i64 2, .int .i64 0, .string ⟨#[97, 255]⟩, .string ⟨#[97]⟩, .int .i64 3, .int .i64 2, .int .i64 0, .string ⟨#[98]⟩] 40)) (some ⟨x4.heap.size, 0, none⟩) [⟨[97], 5, 2, 0, [97, 255]⟩, ⟨[97], 3, 2, 0, [98]⟩] := rdk_lit layP x4 [⟨[97], 5, 2, 0, [97, 255]⟩, ⟨[97], 3, 2, 0, [98]⟩] 40 #[.string ⟨#[97]⟩, .int .i64 5, .int .i64 2, .int .i64 0, .string ⟨#[97, 255]⟩, .string ⟨#[97]⟩, .int .i64 3, .int .i64 2, .int .i64 0, .string ⟨#[98]⟩] rfl
  refine hKa.out _ _ hS5 ?_
  clear hKa Ka
  generalize x4.alloc (.cells #[.string ⟨#[97]⟩, .int .i64 5, .int .i64 2, .int .i64 0, .string ⟨#[97, 255]⟩, .string ⟨#[97]⟩, .int .i64 3, .int .i64 2, .int .i64 0, .string ⟨#[98]⟩] 40) = x5 at *
  generalize x4.heap.size = g5 at *
  have hrr5 := RdK.below hrb3 hS5
  have hln5 : ([⟨[97], 5, 2, 0, [97, 255]⟩, ⟨[97], 3, 2, 0, [98]⟩] : List Pr).length = 2 := rfl
  have hde5 : decide (([⟨[97], 5, 2, 0, [97, 255]⟩, ⟨[97], 3, 2, 0, [98]⟩] : List Pr) = [⟨[97], 5, 2, 0, [97, 255]⟩, ⟨[97], 3, 2, 0, [98]⟩]) = true := by decide
  refine wpAnyH_one (i := 29) (by kernel_rfl) rfl (by rfl) (fun Ka hKa => ?_)
  go_simp
  with_reducible refine (samePs_at Bb [⟨[97], 5, 2, 0, [97, 255]⟩, ⟨[97], 3, 2, 0, [98]⟩] 2 cb hln5 (by omega) (some ⟨g5, 0, none⟩) [⟨[97], 5, 2, 0, [97, 255]⟩, ⟨[97], 3, 2, 0, [98]⟩] 2 2 hln5 (by omega) x5 hrr5 hlit5 true hde5).mono ?_
  rintro e x6 ⟨rfl, hg6⟩
  have hS6 := below_next hS5 (Nat.le_refl _) hg6.below
  go_wp2_with fail
  refine hKa.out _ _ hS6 ?_
  clear hKa Ka
  refine wpAnyH_yes (i := 30) (d := 67) (v := ?_) rfl rfl (by kernel_rfl) (by kernel_rfl) (by kernel_rfl) (fun _ _ _ h => h) (by rfl) ?_ hS6 ?_
  rotate_left
  · intro w' hSw; go_simp <;> with_reducible rfl
  simp only [Act.put, List.setIfInBounds_toArray, List.set_cons_zero, List.set_cons_succ]
  refine wpAnyH_yes (i := 31) (d := 68) (v := ?_) rfl rfl (by kernel_rfl) (by kernel_rfl) (by kernel_rfl) (fun _ _ _ h => h) (by rfl) ?_ hS6 ?_
  rotate_left
  · intro w' hSw; go_simp <;> with_reducible rfl
  simp only [Act.put, List.setIfInBounds_toArray, List.set_cons_zero, List.set_cons_succ]
  refine wpAnyH_yes (i := 32) (d := 69) (v := ?_) rfl rfl (by kernel_rfl) (by kernel_rfl) (by kernel_rfl) (fun _ _ _ h => h) (by rfl) ?_ hS6 ?_
  rotate_left
  · intro w' hSw; go_simp <;> with_reducible rfl
  simp only [Act.put, List.setIfInBounds_toArray, List.set_cons_zero, List.set_cons_succ]
  refine wpAnyH_yes (i := 33) (d := 70) (v := ?_) rfl rfl (by kernel_rfl) (by kernel_rfl) (by kernel_rfl) (fun _ _ _ h => h) (by rfl) ?_ hS6 ?_
  rotate_left
  · intro w' hSw; go_simp <;> with_reducible rfl
  simp only [Act.put, List.setIfInBounds_toArray, List.set_cons_zero, List.set_cons_succ]
  refine wpAnyH_one (i := 34) (by kernel_rfl) rfl (by rfl) (fun Ka hKa => ?_)
  go_simp
  have hS7 : Below wd.heap.size wd (x6.alloc (.cells #[.string ⟨#[97]⟩, .int .i64 8, .int .i64 0, .int .i64 0, .string ⟨#[]⟩] 40)) := hS6.alloc hS6.size _
  have hlit7 : RdQ (x6.alloc (.cells #[.string ⟨#[97]⟩, .int .i64 8, .int .i64 0, .int .i64 0, .string ⟨#[]⟩] 40)) (some ⟨x6.heap.size, 0, none⟩) [⟨[97], 8, 0, 0, []⟩] := rdk_lit layP x6 [⟨[97], 8, 0, 0, []⟩] 40 #[.string ⟨#[97]⟩, .int .i64 8, .int .i64 0, .int .i64 0, .string ⟨#[]⟩] rfl
  refine hKa.out _ _ hS7 ?_
  clear hKa Ka
  generalize x6.alloc (.cells #[.string ⟨#[97]⟩, .int .i64 8, .int .i64 0, .int .i64 0, .string ⟨#[]⟩] 40) = x7 at *
  generalize x6.heap.size = g7 at *
  have hrr7 := RdK.below hrd hS7
  have hln7 : ([⟨[97], 8, 0, 0, []⟩] : List Pr).length = 1 := rfl
  have hde7 : decide (([⟨[97], 8, 0, 0, []⟩] : List Pr) = [⟨[97], 8, 0, 0, []⟩]) = true := by decide
  refine wpAnyH_one (i := 35) (by kernel_rfl) rfl (by rfl) (fun Ka hKa => ?_)
  go_simp
  with_reducible refine (samePs_at Bd [⟨[97], 8, 0, 0, []⟩] 1 cd hln7 (by omega) (some ⟨g7, 0, none⟩) [⟨[97], 8, 0, 0, []⟩] 1 1 hln7 (by omega) x7 hrr7 hlit7 true hde7).mono ?_
  rintro e x8 ⟨rfl, hg8⟩
  have hS8 := below_next hS7 (Nat.le_refl _) hg8.below
  go_wp2_with fail
  refine hKa.out _ _ hS8 ?_
  clear hKa Ka
  refine wpAnyH_yes (i := 36) (d := 73) (v := ?_) rfl rfl (by kernel_rfl) (by kernel_rfl) (by kernel_rfl) (fun _ _ _ h => h) (by rfl) ?_ hS8 ?_
  rotate_left
  · intro w' hSw; go_simp <;> with_reducible rfl
  simp only [Act.put, List.setIfInBounds_toArray, List.set_cons_zero, List.set_cons_succ]
  refine wpAnyH_yes (i := 37) (d := 74) (v := ?_) rfl rfl (by kernel_rfl) (by kernel_rfl) (by kernel_rfl) (fun _ _ _ h => h) (by rfl) ?_ hS8 ?_
  rotate_left
  · intro w' hSw; go_simp <;> with_reducible rfl
  simp only [Act.put, List.setIfInBounds_toArray, List.set_cons_zero, List.set_cons_succ]
  refine wpAnyH_yes (i := 38) (d := 75) (v := ?_) rfl rfl (by kernel_rfl) (by kernel_rfl) (by kernel_rfl) (fun _ _ _ h => h) (by rfl) ?_ hS8 ?_
  rotate_left
  · intro w' hSw; obtain ⟨s0, s1, s2, s3, s4, s5, s6, _⟩ := blk7 (Blk.below hV3g hSw hV3g.lt); obtain ⟨t0, t1, t2, t3, t4, t5, t6, _⟩ := blk7 (Blk.below hV4g hSw hV4g.lt); obtain ⟨u0, u1, u2, u3, u4, u5, u6, _⟩ := blk7 (Blk.below hV5g hSw hV5g.lt); go_simp <;> with_reducible rfl
  simp only [Act.put, List.setIfInBounds_toArray, List.set_cons_zero, List.set_cons_succ]
  refine wpAnyH_yes (i := 39) (d := 76) (v := ?_) rfl rfl (by kernel_rfl) (by kernel_rfl) (by kernel_rfl) (fun _ _ _ h => h) (by rfl) ?_ hS8 ?_
  rotate_left
  · intro w' hSw; go_simp <;> with_reducible rfl
  simp only [Act.put, List.setIfInBounds_toArray, List.set_cons_zero, List.set_cons_succ]
  refine wpAnyH_one (i := 40) (by kernel_rfl) rfl (by rfl) (fun Ka hKa => ?_)
  go_simp
  with_reducible refine (has_is 1 4 5 [] [] false X1 0 d1 spI haI cI 1 5 [] x8 hlI (by omega) b1 b2 b3 (hnI _) true h5).mono ?_
  rintro e x9 ⟨rfl, hg9⟩
  have hS9 := below_next hS8 (Nat.le_refl _) hg9.below
  go_wp2_with fail
  refine hKa.out _ _ hS9 ?_
  clear hKa Ka
  refine wpAnyH_yes (i := 41) (d := 78) (v := ?_) rfl rfl (by kernel_rfl) (by kernel_rfl) (by kernel_rfl) (fun _ _ _ h => h) (by rfl) ?_ hS9 ?_
  rotate_left
  · intro w' hSw; go_simp <;> with_reducible rfl
  simp only [Act.put, List.setIfInBounds_toArray, List.set_cons_zero, List.set_cons_succ]
  refine wpAnyH_yes (i := 42) (d := 79) (v := ?_) rfl rfl (by kernel_rfl) (by kernel_rfl) (by kernel_rfl) (fun _ _ _ h => h) (by rfl) ?_ hS9 ?_
  rotate_left
  · intro w' hSw; go_simp <;> with_reducible rfl
  simp only [Act.put, List.setIfInBounds_toArray, List.set_cons_zero, List.set_cons_succ]
  refine wpAnyH_yes (i := 43) (d := 80) (v := ?_) rfl rfl (by kernel_rfl) (by kernel_rfl) (by kernel_rfl) (fun _ _ _ h => h) (by rfl) ?_ hS9 ?_
  rotate_left
  · intro w' hSw; obtain ⟨s0, s1, s2, s3, s4, s5, s6, _⟩ := blk7 (Blk.below hV3g hSw hV3g.lt); obtain ⟨t0, t1, t2, t3, t4, t5, t6, _⟩ := blk7 (Blk.below hV4g hSw hV4g.lt); obtain ⟨u0, u1, u2, u3, u4, u5, u6, _⟩ := blk7 (Blk.below hV5g hSw hV5g.lt); go_simp <;> with_reducible rfl
  simp only [Act.put, List.setIfInBounds_toArray, List.set_cons_zero, List.set_cons_succ]
  refine wpAnyH_yes (i := 44) (d := 81) (v := ?_) rfl rfl (by kernel_rfl) (by kernel_rfl) (by kernel_rfl) (fun _ _ _ h => h) (by rfl) ?_ hS9 ?_
  rotate_left
  · intro w' hSw; go_simp <;> with_reducible rfl
  simp only [Act.put, List.setIfInBounds_toArray, List.set_cons_zero, List.set_cons_succ]
  refine wpAnyH_one (i := 45) (by kernel_rfl) rfl (by rfl) (fun Ka hKa => ?_)
  go_simp
  with_reducible refine (has_is 1 4 5 [] [] false X1 0 d1 spI haI cI 1 6 [] x9 hlI (by omega) b1 b4 b5 (hnI _) false h6).mono ?_
  rintro e x10 ⟨rfl, hg10⟩
  have hS10 := below_next hS9 (Nat.le_refl _) hg10.below
  go_wp2_with fail
  refine hKa.out _ _ hS10 ?_
  clear hKa Ka
  refine wpAnyH_yes (i := 46) (d := 83) (v := ?_) rfl rfl (by kernel_rfl) (by kernel_rfl) (by kernel_rfl) (fun _ _ _ h => h) (by rfl) ?_ hS10 ?_
  rotate_left
  · intro w' hSw; go_simp <;> with_reducible rfl
  simp only [Act.put, List.setIfInBounds_toArray, List.set_cons_zero, List.set_cons_succ]
  refine wpAnyH_yes (i := 47) (d := 84) (v := ?_) rfl rfl (by kernel_rfl) (by kernel_rfl) (by kernel_rfl) (fun _ _ _ h => h) (by rfl) ?_ hS10 ?_
  rotate_left
  · intro w' hSw; go_simp <;> with_reducible rfl
  simp only [Act.put, List.setIfInBounds_toArray, List.set_cons_zero, List.set_cons_succ]
  refine wpAnyH_yes (i := 48) (d := 85) (v := ?_) rfl rfl (by kernel_rfl) (by kernel_rfl) (by kernel_rfl) (fun _ _ _ h => h) (by rfl) ?_ hS10 ?_
  rotate_left
  · intro w' hSw; go_simp <;> with_reducible rfl
  simp only [Act.put, List.setIfInBounds_toArray, List.set_cons_zero, List.set_cons_succ]
  refine wpAnyH_yes (i := 49) (d := 86) (v := ?_) rfl rfl (by kernel_rfl) (by kernel_rfl) (by kernel_rfl) (fun _ _ _ h => h) (by rfl) ?_ hS10 ?_
  rotate_left
  · intro w' hSw; obtain ⟨s0, s1, s2, s3, s4, s5, s6, _⟩ := blk7 (Blk.below hV3g hSw hV3g.lt); obtain ⟨t0, t1, t2, t3, t4, t5, t6, _⟩ := blk7 (Blk.below hV4g hSw hV4g.lt); obtain ⟨u0, u1, u2, u3, u4, u5, u6, _⟩ := blk7 (Blk.below hV5g hSw hV5g.lt); go_simp <;> with_reducible rfl
  simp only [Act.put, List.setIfInBounds_toArray, List.set_cons_zero, List.set_cons_succ]
  refine wpAnyH_one (i := 50) (by kernel_rfl) rfl (by rfl) (fun Ka hKa => ?_)
  go_simp
  with_reducible refine (all_at x10).mono ?_
  rintro e x11 ⟨rfl, hg11⟩
  have hS11 := below_next hS10 (Nat.le_refl _) hg11.below
  go_wp2_with fail
  refine hKa.out _ _ hS11 ?_
  clear hKa Ka
  refine wpAnyH_one (i := 51) (by kernel_rfl) rfl (by rfl) (fun Ka hKa => ?_)
  go_simp
  with_reducible refine (in_is 1 4 5 [] [] false X1 0 d1 spI haI 4 0 0 [] [] false none 0 0 any_ haA cI cA x11 hlI (by omega) hlA (by omega) (hnI _) (hnA _) true inI1).mono ?_
  rintro e x12 ⟨rfl, hg12⟩
  have hS12 := below_next hS11 (Nat.le_refl _) hg12
  go_wp2_with fail
  refine hKa.out _ _ hS12 ?_
  clear hKa Ka
  refine wpAnyH_yes (i := 52) (d := 89) (v := ?_) rfl rfl (by kernel_rfl) (by kernel_rfl) (by kernel_rfl) (fun _ _ _ h => h) (by rfl) ?_ hS12 ?_
  rotate_left
  · intro w' hSw; go_simp <;> with_reducible rfl
  simp only [Act.put, List.setIfInBounds_toArray, List.set_cons_zero, List.set_cons_succ]
  refine wpAnyH_yes (i := 53) (d := 90) (v := ?_) rfl rfl (by kernel_rfl) (by kernel_rfl) (by kernel_rfl) (fun _ _ _ h => h) (by rfl) ?_ hS12 ?_
  rotate_left
  · intro w' hSw; go_simp <;> with_reducible rfl
  simp only [Act.put, List.setIfInBounds_toArray, List.set_cons_zero, List.set_cons_succ]
  refine wpAnyH_yes (i := 55) (d := 92) (v := ?_) rfl rfl (by kernel_rfl) (by kernel_rfl) (by kernel_rfl) (fun _ _ _ h => h) (by rfl) ?_ hS12 ?_
  rotate_left
  · intro w' hSw; obtain ⟨s0, s1, s2, s3, s4, s5, s6, _⟩ := blk7 (Blk.below hV3g hSw hV3g.lt); obtain ⟨t0, t1, t2, t3, t4, t5, t6, _⟩ := blk7 (Blk.below hV4g hSw hV4g.lt); obtain ⟨u0, u1, u2, u3, u4, u5, u6, _⟩ := blk7 (Blk.below hV5g hSw hV5g.lt); go_simp <;> with_reducible rfl
  simp only [Act.put, List.setIfInBounds_toArray, List.set_cons_zero, List.set_cons_succ]
  refine wpAnyH_one (i := 54) (by kernel_rfl) rfl (by rfl) (fun Ka hKa => ?_)
  go_simp
  with_reducible refine (all_at x12).mono ?_
  rintro e x13 ⟨rfl, hg13⟩
  have hS13 := below_next hS12 (Nat.le_refl _) hg13.below
  go_wp2_with fail
  refine hKa.out _ _ hS13 ?_
  clear hKa Ka
  refine wpAnyH_one (i := 56) (by kernel_rfl) rfl (by rfl) (fun Ka hKa => ?_)
  go_simp
  with_reducible refine (in_is 4 0 0 [] [] false none 0 0 any_ haA 1 4 5 [] [] false X1 0 d1 spI haI cA cI x13 hlA (by omega) hlI (by omega) (hnA _) (hnI _) false inI2).mono ?_
  rintro e x14 ⟨rfl, hg14⟩
  have hS14 := below_next hS13 (Nat.le_refl _) hg14
  go_wp2_with fail
  refine hKa.out _ _ hS14 ?_
  clear hKa Ka
  refine wpAnyH_yes (i := 57) (d := 94) (v := ?_) rfl rfl (by kernel_rfl) (by kernel_rfl) (by kernel_rfl) (fun _ _ _ h => h) (by rfl) ?_ hS14 ?_
  rotate_left
  · intro w' hSw; go_simp <;> with_reducible rfl
  simp only [Act.put, List.setIfInBounds_toArray, List.set_cons_zero, List.set_cons_succ]
  refine wpAnyH_yes (i := 58) (d := 95) (v := ?_) rfl rfl (by kernel_rfl) (by kernel_rfl) (by kernel_rfl) (fun _ _ _ h => h) (by rfl) ?_ hS14 ?_
  rotate_left
  · intro w' hSw; go_simp <;> with_reducible rfl
  simp only [Act.put, List.setIfInBounds_toArray, List.set_cons_zero, List.set_cons_succ]
  refine wpAnyH_yes (i := 59) (d := 0) (v := ?_) rfl rfl (by kernel_rfl) (by kernel_rfl) (by kernel_rfl) (fun _ _ _ h => h) (by rfl) ?_ hS14 ?_
  rotate_left
  · intro w' hSw; go_simp <;> with_reducible rfl
  simp only [Act.put, List.setIfInBounds_toArray, List.set_cons_zero]
  refine wpAnyH_done (by kernel_rfl) ?_ _
  go_wp2_with fail
  go_ret
  exact ⟨rfl, below_next hBd (Nat.le_refl _) hS14⟩
end Go.Proofs.Ytcgmbgfbhdimeaa
