/- The small case that each statement of layer 6 begins with. -/
import Derived.Test.YtcmjekchfgnbdaaPMeets
import Derived.Test.YtcmjekchfgnbdaaPPut
import Derived.Test.YtcmjekchfgnbdaaPGet
namespace Go.Proofs.Ytcmjekchfgnbdaa
open Go.RowKit Go.Sort Ev
theorem eqGuardP : Try.prog.eqGuardType Try.prog.depth 25 = false := by kernel_rfl
theorem lay_sp : Preds.lay [97] 5 1 5 [] = [1, 97, 5, 1, 10] := by
  have e1 : Wire.put (1 : Int).toNat = [1] := Wire.put_lo 1 (by decide)
  have e2 : Wire.text [97] = [1, 97] := by unfold Wire.text; rw [show ([97] : List UInt8).length = 1 from rfl, Wire.put_lo _ (by decide)]; rfl
  have e3 : Wire.put (5 : Int).toNat = [5] := Wire.put_lo 5 (by decide)
  have e4 : Wire.put (Wire.zig 5) = [10] := Wire.put_lo 10 (by decide)
  have e5 : Vals.lay 1 5 [] = [1, 10] := by
    unfold Vals.lay Vals.bytes
    rw [if_pos (by rfl), if_pos rfl, e1, e4]; rfl
  unfold Preds.lay Preds.bytes
  rw [if_pos (by rfl), if_neg (by decide), e2, e3, e5]; rfl
theorem get_sp : Preds.getS ⟨[1, 97, 5, 1, 10], 0⟩ = ⟨[], 0⟩ ∧ Preds.getN ⟨[1, 97, 5, 1, 10], 0⟩ = [97] ∧ Preds.getO ⟨[1, 97, 5, 1, 10], 0⟩ = 5 ∧ Preds.getK ⟨[1, 97, 5, 1, 10], 0⟩ = 1 ∧ Preds.getI ⟨[1, 97, 5, 1, 10], 0⟩ = 5 ∧ Preds.getT ⟨[1, 97, 5, 1, 10], 0⟩ = [] := by
  have h := Preds.get_lay [97] 5 1 5 [] [] (by rfl) (by decide) (by decide)
  rw [lay_sp] at h
  exact h
theorem get_st : Preds.getS ⟨[1, 97, 7, 1, 0], 0⟩ = ⟨[], 3⟩ := by rfl
theorem get_bt : Preds.getN ⟨[1, 97, 7, 1, 0], 0⟩ = [] ∧ Preds.getO ⟨[1, 97, 7, 1, 0], 0⟩ = 0 ∧ Preds.getK ⟨[1, 97, 7, 1, 0], 0⟩ = 0 ∧ Preds.getI ⟨[1, 97, 7, 1, 0], 0⟩ = 0 ∧ Preds.getT ⟨[1, 97, 7, 1, 0], 0⟩ = [] := Preds.get_bad _ (by rw [get_st]; decide)
/-- What the small case keeps in mind. -/
structure SmlP (b : Nat) (w : World) : Prop where
  five : Blk w b 23 #[.int .i64 1, .int .i64 5, .string ⟨#[]⟩]
  text : Blk w (b + 1) 23 #[.int .i64 2, .int .i64 0, .string ⟨#[97, 98]⟩]
  p : Blk w (b + 2) 25 #[.string ⟨#[97]⟩, .int .i64 5, .int .i64 1, .int .i64 5, .string ⟨#[]⟩]
  q : Blk w (b + 3) 25 #[.string ⟨#[97]⟩, .int .i64 7, .int .i64 2, .int .i64 0, .string ⟨#[97, 98]⟩]
  e : Blk w (b + 4) 52 #[.string ⟨#[97]⟩, .int .i64 1, .int .i64 6, .string ⟨#[]⟩]
theorem SmlP.below {b : Nat} {w w' : World} (h : SmlP b w) (k : Below w.heap.size w w') : SmlP b w' := ⟨h.five.below k h.five.lt, h.text.below k h.text.lt, h.p.below k h.p.lt, h.q.below k h.q.lt, h.e.below k h.e.lt⟩
theorem SmlP.touch {b g : Nat} {w w' : World} (h : SmlP b w) (k : Touch g w w') (hg : b + 4 < g) : SmlP b w' := ⟨k.blk h.five (by omega), k.blk h.text (by omega), k.blk h.p (by omega), k.blk h.q (by omega), k.blk h.e (by omega)⟩
theorem SmlP.new (w : World) : SmlP w.heap.size (((((w.alloc (.cells #[.int .i64 1, .int .i64 5, .string ⟨#[]⟩] 23)).alloc (.cells #[.int .i64 2, .int .i64 0, .string ⟨#[97, 98]⟩] 23)).alloc (.cells #[.string ⟨#[97]⟩, .int .i64 5, .int .i64 1, .int .i64 5, .string ⟨#[]⟩] 25)).alloc (.cells #[.string ⟨#[97]⟩, .int .i64 7, .int .i64 2, .int .i64 0, .string ⟨#[97, 98]⟩] 25)).alloc (.cells #[.string ⟨#[97]⟩, .int .i64 1, .int .i64 6, .string ⟨#[]⟩] 52)) := by
  refine ⟨((((Blk.new w _ _).alloc _).alloc _).alloc _).alloc _, ?_, ?_, ?_, ?_⟩
  · have := (((Blk.new (w.alloc (.cells #[.int .i64 1, .int .i64 5, .string ⟨#[]⟩] 23)) 23 #[.int .i64 2, .int .i64 0, .string ⟨#[97, 98]⟩]).alloc (.cells #[.string ⟨#[97]⟩, .int .i64 5, .int .i64 1, .int .i64 5, .string ⟨#[]⟩] 25)).alloc (.cells #[.string ⟨#[97]⟩, .int .i64 7, .int .i64 2, .int .i64 0, .string ⟨#[97, 98]⟩] 25)).alloc (.cells #[.string ⟨#[97]⟩, .int .i64 1, .int .i64 6, .string ⟨#[]⟩] 52)
    simpa using this
  · have := ((Blk.new ((w.alloc (.cells #[.int .i64 1, .int .i64 5, .string ⟨#[]⟩] 23)).alloc (.cells #[.int .i64 2, .int .i64 0, .string ⟨#[97, 98]⟩] 23)) 25 #[.string ⟨#[97]⟩, .int .i64 5, .int .i64 1, .int .i64 5, .string ⟨#[]⟩]).alloc (.cells #[.string ⟨#[97]⟩, .int .i64 7, .int .i64 2, .int .i64 0, .string ⟨#[97, 98]⟩] 25)).alloc (.cells #[.string ⟨#[97]⟩, .int .i64 1, .int .i64 6, .string ⟨#[]⟩] 52)
    simpa using this
  · have := (Blk.new (((w.alloc (.cells #[.int .i64 1, .int .i64 5, .string ⟨#[]⟩] 23)).alloc (.cells #[.int .i64 2, .int .i64 0, .string ⟨#[97, 98]⟩] 23)).alloc (.cells #[.string ⟨#[97]⟩, .int .i64 5, .int .i64 1, .int .i64 5, .string ⟨#[]⟩] 25)) 25 #[.string ⟨#[97]⟩, .int .i64 7, .int .i64 2, .int .i64 0, .string ⟨#[97, 98]⟩]).alloc (.cells #[.string ⟨#[97]⟩, .int .i64 1, .int .i64 6, .string ⟨#[]⟩] 52)
    simpa using this
  · have := Blk.new ((((w.alloc (.cells #[.int .i64 1, .int .i64 5, .string ⟨#[]⟩] 23)).alloc (.cells #[.int .i64 2, .int .i64 0, .string ⟨#[97, 98]⟩] 23)).alloc (.cells #[.string ⟨#[97]⟩, .int .i64 5, .int .i64 1, .int .i64 5, .string ⟨#[]⟩] 25)).alloc (.cells #[.string ⟨#[97]⟩, .int .i64 7, .int .i64 2, .int .i64 0, .string ⟨#[97, 98]⟩] 25)) 52 #[.string ⟨#[97]⟩, .int .i64 1, .int .i64 6, .string ⟨#[]⟩]
    simpa using this
theorem smlB (w : World) : Below w.heap.size w (((((w.alloc (.cells #[.int .i64 1, .int .i64 5, .string ⟨#[]⟩] 23)).alloc (.cells #[.int .i64 2, .int .i64 0, .string ⟨#[97, 98]⟩] 23)).alloc (.cells #[.string ⟨#[97]⟩, .int .i64 5, .int .i64 1, .int .i64 5, .string ⟨#[]⟩] 25)).alloc (.cells #[.string ⟨#[97]⟩, .int .i64 7, .int .i64 2, .int .i64 0, .string ⟨#[97, 98]⟩] 25)).alloc (.cells #[.string ⟨#[97]⟩, .int .i64 1, .int .i64 6, .string ⟨#[]⟩] 52)) :=
  (((((Below.refl _ _).alloc (Nat.le_refl _) _).alloc (by simp) _).alloc (by simp; omega) _).alloc (by simp; omega) _).alloc (by simp; omega) _
theorem sml_size (w : World) : (((((w.alloc (.cells #[.int .i64 1, .int .i64 5, .string ⟨#[]⟩] 23)).alloc (.cells #[.int .i64 2, .int .i64 0, .string ⟨#[97, 98]⟩] 23)).alloc (.cells #[.string ⟨#[97]⟩, .int .i64 5, .int .i64 1, .int .i64 5, .string ⟨#[]⟩] 25)).alloc (.cells #[.string ⟨#[97]⟩, .int .i64 7, .int .i64 2, .int .i64 0, .string ⟨#[97, 98]⟩] 25)).alloc (.cells #[.string ⟨#[97]⟩, .int .i64 1, .int .i64 6, .string ⟨#[]⟩] 52)).heap.size = w.heap.size + 5 := by simp
theorem SmlP.rda {b : Nat} {w : World} (h : SmlP b w) : RdA w (some ⟨b + 4, 0, none⟩) [⟨[97], 1, 6, []⟩] := rda_of_flat h.e rfl
set_option maxRecDepth 100000 in
set_option maxHeartbeats 3200000 in
theorem small_any (w : World) :
    Calls Try.prog 8 #[] w fun e w' => e = .returned (.bool true) ∧ Below w.heap.size w w' := by
  have hK := SmlP.new w
  have hb := smlB w
  have hz := sml_size w
  have hG := eqGuardP
  go_enter Try.func8, Try.ntmps8
  go_wp2_with fail
  generalize (((((w.alloc (.cells #[.int .i64 1, .int .i64 5, .string ⟨#[]⟩] 23)).alloc (.cells #[.int .i64 2, .int .i64 0, .string ⟨#[97, 98]⟩] 23)).alloc (.cells #[.string ⟨#[97]⟩, .int .i64 5, .int .i64 1, .int .i64 5, .string ⟨#[]⟩] 25)).alloc (.cells #[.string ⟨#[97]⟩, .int .i64 7, .int .i64 2, .int .i64 0, .string ⟨#[97, 98]⟩] 25)).alloc (.cells #[.string ⟨#[97]⟩, .int .i64 1, .int .i64 6, .string ⟨#[]⟩] 52)) = w0 at *
  have hlt : w.heap.size + 5 ≤ w0.heap.size := by omega
  refine (pput_at none [] 0 0 5 [97] 5 1 5 [] rfl (by rw [lay_sp]; rfl) (by decide) (by decide) (by decide) (by decide) (by decide) w0 (.inl rfl)).mono ?_
  rintro e w1 ⟨D, c, rfl, hc, hb1, hr1⟩
  rw [List.nil_append, lay_sp] at hr1
  replace hK := hK.below hb1
  replace hb := below_next hb (Nat.le_refl _) hb1
  replace hlt : w.heap.size + 5 ≤ w1.heap.size := Nat.le_trans hlt hb1.size
  clear hb1 hz
  go_wp2_with fail
  refine (on_at D [1, 97, 5, 1, 10] 5 c rfl (by decide) w1 hr1).mono ?_
  rintro e w2 ⟨gs, rfl, hgs, hb1, hs⟩
  have hgs5 : w.heap.size + 5 ≤ gs := Nat.le_trans hlt hgs
  replace hK := hK.below hb1
  replace hr1 := hr1.below hb1
  replace hb := below_next hb (Nat.le_refl _) hb1
  clear hb1 hlt hgs
  go_wp2_with fail
  have hr4 := rd_const w2 5 (0, 0) #[.int .u8 1, .int .u8 97, .int .u8 7, .int .u8 1, .int .u8 0] [1, 97, 7, 1, 0] rfl
  have hb4 : Below w2.heap.size w2 (w2.alloc (.cells #[.int .u8 1, .int .u8 97, .int .u8 7, .int .u8 1, .int .u8 0] 5)) := (Below.refl _ _).alloc (Nat.le_refl _) _
  refine (on_at _ [1, 97, 7, 1, 0] 5 5 rfl (by decide) _ hr4).mono ?_
  rintro e w3 ⟨gt, rfl, hgt, hb4', ht⟩
  replace hb4 := below_next hb4 (Nat.le_refl _) hb4'
  have hst : gs < gt := by have := hs.lt; have := hgt; simp at this; omega
  replace hK := hK.below hb4
  replace hr1 := hr1.below hb4
  replace hs := hs.below hb4
  replace hb := below_next hb (Nat.le_refl _) hb4
  clear hr4 hb4 hb4' hgt
  go_wp2_with fail
  refine (pget_at w3 gs _ hs [97] 5 1 5 [] ⟨[], 0⟩ get_sp.2.1 get_sp.2.2.1 get_sp.2.2.2.1 get_sp.2.2.2.2.1 get_sp.2.2.2.2.2 get_sp.1).mono ?_
  rintro e w4 ⟨rfl, hs4, hT⟩
  replace hK := hK.touch hT (by omega)
  replace hr1 := hT.rd_sc hs hr1
  replace ht := hT.sc hs ht (by omega)
  replace hb := hT.below hb hb.size (by omega)
  clear hs hT
  go_wp2_with fail
  obtain ⟨hX, hb6⟩ := box5 w4 25 (.string ⟨#[97]⟩) (.int .i64 5) (.int .i64 1) (.int .i64 5) (.string ⟨#[]⟩)
  have hXt : gt < w4.heap.size := ht.lt
  replace hK := hK.below hb6
  replace hr1 := hr1.below hb6
  replace hs4 := hs4.below hb6
  replace ht := ht.below hb6
  replace hb := below_next hb (Nat.le_refl _) hb6
  generalize w4.heap.size = gx at *
  generalize w4.alloc (.cells #[.string ⟨#[97]⟩, .int .i64 5, .int .i64 1, .int .i64 5, .string ⟨#[]⟩] 25) = w5 at *
  clear hb6
  refine (pget_at w5 gt _ ht [] 0 0 0 [] ⟨[], 3⟩ get_bt.1 get_bt.2.1 get_bt.2.2.1 get_bt.2.2.2.1 get_bt.2.2.2.2 get_st).mono ?_
  rintro e w6 ⟨rfl, ht6, hT⟩
  replace hK := hK.touch hT (by omega)
  replace hX := hT.blk hX (by omega)
  replace hr1 := hT.rd_sc ht hr1
  replace hs4 := hT.sc ht hs4 (by omega)
  replace hb := hT.below hb hb.size (by omega)
  clear ht hT
  obtain ⟨hY, hb8⟩ := box5 w6 25 (.string ⟨#[]⟩) (.int .i64 0) (.int .i64 0) (.int .i64 0) (.string ⟨#[]⟩)
  have lt1 : w.heap.size + 2 < w6.heap.size := hK.p.lt
  have lt2 : gx < w6.heap.size := hX.lt
  have hstr := str_below c hr1 (n := 5) rfl hb8
  replace hK := hK.below hb8
  replace hX := hX.below hb8 hX.lt
  replace hs4 := hs4.below hb8
  replace ht6 := ht6.below hb8
  replace hb := below_next hb (Nat.le_refl _) hb8
  obtain ⟨p0, p1, p2, p3, p4, _, _, _, _, _⟩ := blk5 hK.p
  obtain ⟨x0, x1, x2, x3, x4, _, _, _, _, _⟩ := blk5 hX
  clear hb8 hr1
  go_wp2_with fail
  obtain ⟨y0, y1, y2, y3, y4, _, _, _, _, _⟩ := blk5 hY
  generalize w6.alloc (.cells #[.string ⟨#[]⟩, .int .i64 0, .int .i64 0, .int .i64 0, .string ⟨#[]⟩] 25) = w7 at *
  clear hstr x0 x1 x2 x3 x4 p0 p1 p2 p3 p4 hX lt1 lt2
  refine (end_at w7 gs _ hs4 0 rfl).mono ?_
  rintro e w9 ⟨rfl, rfl⟩
  go_wp2_with fail
  refine (err_at w7 gt _ ht6 3 rfl).mono ?_
  rintro e w9 ⟨rfl, rfl⟩
  clear y0 y1 y2 y3 y4 hs4 ht6 hY hst hgs5 hXt
  obtain ⟨q0, q1, q2, q3, q4, _, _, _, _, _⟩ := blk5 hK.q
  go_wp2_with fail
  refine (pright_is [97] 7 2 0 [97, 98] w7 (by decide) (by decide) true rfl).mono ?_
  rintro e w8 ⟨rfl, hb1⟩
  replace hK := hK.below hb1
  replace hb := below_next hb (Nat.le_refl _) hb1
  clear hb1 q0 q1 q2 q3 q4
  obtain ⟨q0, q1, q2, q3, q4, _, _, _, _, _⟩ := blk5 hK.q
  go_wp2_with fail
  refine (holds_is [97] 7 2 0 [97, 98] 2 0 [97, 98, 99] w8 (by decide) (by decide) (by decide) true rfl).mono ?_
  rintro e w9 ⟨rfl, hb1⟩
  replace hK := hK.below hb1
  replace hb := below_next hb (Nat.le_refl _) hb1
  clear hb1 q0 q1 q2 q3 q4
  obtain ⟨q0, q1, q2, q3, q4, _, _, _, _, _⟩ := blk5 hK.q
  go_wp2_with fail
  refine (holds_is [97] 7 2 0 [97, 98] 2 0 [97] w9 (by decide) (by decide) (by decide) false rfl).mono ?_
  rintro e w10 ⟨rfl, hb1⟩
  replace hK := hK.below hb1
  replace hb := below_next hb (Nat.le_refl _) hb1
  clear hb1 q0 q1 q2 q3 q4
  obtain ⟨p0, p1, p2, p3, p4, _, _, _, _, _⟩ := blk5 hK.p
  go_wp2_with fail
  refine (meets_is [97] 5 1 5 [] (some ⟨w.heap.size + 4, 0, none⟩) [⟨[97], 1, 6, []⟩] 1 1 w10 rfl (by decide) (by intro a ha; simp at ha; subst ha; exact ⟨by decide, by decide⟩) (by decide) (by decide) hK.rda true rfl).mono ?_
  rintro e w11 ⟨rfl, hb1⟩
  replace hK := hK.below hb1
  replace hb := below_next hb (Nat.le_refl _) hb1
  clear hb1 p0 p1 p2 p3 p4
  obtain ⟨p0, p1, p2, p3, p4, _, _, _, _, _⟩ := blk5 hK.p
  go_wp2_with fail
  refine (meets_is [97] 5 1 5 [] none [] 0 0 w11 rfl (by decide) (by intro a ha; simp at ha) (by decide) (by decide) (.inl rfl) false rfl).mono ?_
  rintro e w12 ⟨rfl, hb1⟩
  replace hK := hK.below hb1
  replace hb := below_next hb (Nat.le_refl _) hb1
  clear hb1 p0 p1 p2 p3 p4
  obtain ⟨p0, p1, p2, p3, p4, _, _, _, _, _⟩ := blk5 hK.p
  obtain ⟨t0, t1, t2, _, _, _⟩ := blk3 hK.text
  go_wp2_with fail
  refine (holds_is [97] 5 1 5 [] 2 0 [97, 98] w12 (by decide) (by decide) (by decide) false rfl).mono ?_
  rintro e w13 ⟨rfl, hb1⟩
  replace hK := hK.below hb1
  replace hb := below_next hb (Nat.le_refl _) hb1
  clear hb1 p0 p1 p2 p3 p4 t0 t1 t2
  obtain ⟨f0, f1, f2, _, _, _⟩ := blk3 hK.five
  obtain ⟨t0, t1, t2, _, _, _⟩ := blk3 hK.text
  go_wp2_with fail
  refine (holds_is [97] 2 1 5 [] 2 0 [97, 98] w13 (by decide) (by decide) (by decide) false rfl).mono ?_
  rintro e w14 ⟨rfl, hb1⟩
  replace hK := hK.below hb1
  replace hb := below_next hb (Nat.le_refl _) hb1
  clear hb1 f0 f1 f2 t0 t1 t2
  obtain ⟨t0, t1, t2, _, _, _⟩ := blk3 hK.text
  go_wp2_with fail
  refine (holds_is [97] 8 0 0 [] 2 0 [97, 98] w14 (by decide) (by decide) (by decide) true rfl).mono ?_
  rintro e w15 ⟨rfl, hb1⟩
  replace hK := hK.below hb1
  replace hb := below_next hb (Nat.le_refl _) hb1
  clear hb1 t0 t1 t2
  go_wp2_with fail
  go_ret
  exact ⟨rfl, hb⟩
end Go.Proofs.Ytcmjekchfgnbdaa
