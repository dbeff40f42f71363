/- The small case that each statement of layer 4 begins with. -/
import Derived.Test.YtkalpobgchnbaaaVGet
import Derived.Test.YtkalpobgchnbaaaVComp
namespace Go.Proofs.Ytkalpobgchnbaaa
open Go.RowKit
theorem lay_ab : Vals.lay 2 0 [97, 98] = [2, 2, 97, 98] := by
  have e1 : Wire.put (2 : Int).toNat = [2] := Wire.put_lo 2 (by decide)
  unfold Vals.lay Vals.bytes
  rw [if_pos (by rfl), if_neg (by decide), if_pos rfl, e1, text_ab]; rfl
theorem get_ab : Vals.getS ⟨[2, 2, 97, 98], 0⟩ = ⟨[], 0⟩ ∧ Vals.getK ⟨[2, 2, 97, 98], 0⟩ = 2 ∧ Vals.getI ⟨[2, 2, 97, 98], 0⟩ = 0 ∧ Vals.getT ⟨[2, 2, 97, 98], 0⟩ = [97, 98] := by
  have h := Vals.get_lay 2 0 [97, 98] [] (by rfl) (by decide) (by decide)
  rw [lay_ab] at h
  exact h
theorem get_00 : Vals.getS ⟨[0], 0⟩ = ⟨[], 3⟩ := by rfl
set_option maxRecDepth 100000 in
set_option maxHeartbeats 1600000 in
theorem small_any (w : World) :
    Calls Try.prog 8 #[] w fun e w' => e = .returned (.bool true) ∧ Below w.heap.size w w' := by
  obtain ⟨hV, hb0⟩ := box3 w 23 (.int .i64 2) (.int .i64 0) (.string ⟨#[97, 98]⟩)
  go_enter Try.func8, Try.ntmps8
  go_wp2_with fail
  have hsz : (w.alloc (.cells #[.int .i64 2, .int .i64 0, .string ⟨#[97, 98]⟩] 23)).heap.size = w.heap.size + 1 := by simp
  generalize w.alloc (.cells #[.int .i64 2, .int .i64 0, .string ⟨#[97, 98]⟩] 23) = w0 at *
  have hr0 := rd_const w0 5 (0, 0) #[.int .u8 9] [9] rfl
  have hb0' : Below w0.heap.size w0 (w0.alloc (.cells #[.int .u8 9] 5)) := (Below.refl _ _).alloc (Nat.le_refl _) _
  rw [hsz] at hr0
  have hV0 := hV.below hb0' hV.lt
  replace hb0 := below_next hb0 (Nat.le_refl _) hb0'
  generalize w0.alloc (.cells #[.int .u8 9] 5) = w1 at *
  clear hV hb0' hsz
  refine (vput_at _ [9] 1 1 5 2 0 [97, 98] rfl (by rw [lay_ab]; rfl) (by decide) (by decide) (by decide) (by decide) _ hr0).mono ?_
  rintro e w2 ⟨D, c, rfl, hc, hb2, hr2⟩
  rw [lay_ab] at hr2
  replace hr2 : Rd w2 D [9, 2, 2, 97, 98] := hr2
  replace hV0 := hV0.below hb2 hV0.lt
  replace hb0 := below_next hb0 (Nat.le_refl _) hb2
  obtain ⟨A3, hcut, hr3⟩ := run_cut (k := 1) hr2 (n := 5) rfl (by decide) hc
  replace hcut : ∀ W, (Instr.slice 24 (.slice D 5 c) (some (.int .i64 1)) none none).run Try.prog W = .ok (.slice A3 4 (c - 1)) W := hcut
  replace hr3 : Rd w2 A3 [2, 2, 97, 98] := hr3
  clear hr0 hb2
  go_wp2_with fail
  refine (on_at A3 [2, 2, 97, 98] 4 (c - 1) rfl (by decide) w2 hr3).mono ?_
  rintro e w3 ⟨gs, rfl, hgs, hb3, hs⟩
  have hVs : w.heap.size < gs := by have := hV0.lt; omega
  replace hV0 := hV0.below hb3 hV0.lt
  replace hr2 := hr2.below hb3
  replace hb0 := below_next hb0 (Nat.le_refl _) hb3
  clear hcut hr3 hgs hb3
  go_wp2_with fail
  have hr4 := rd_const w3 5 (0, 0) #[.int .u8 0] [0] rfl
  have hb4 : Below w3.heap.size w3 (w3.alloc (.cells #[.int .u8 0] 5)) := (Below.refl _ _).alloc (Nat.le_refl _) _
  refine (on_at _ [0] 1 1 rfl (by decide) _ hr4).mono ?_
  rintro e w4 ⟨gt, rfl, hgt, hb4', ht⟩
  replace hb4 := below_next hb4 (Nat.le_refl _) hb4'
  have hst : gs < gt := by have := hs.lt; have := hgt; simp at this; omega
  replace hV0 := hV0.below hb4 hV0.lt
  replace hr2 := hr2.below hb4
  replace hs := hs.below hb4
  replace hb0 := below_next hb0 (Nat.le_refl _) hb4
  clear hr4 hb4 hb4' hgt
  go_wp2_with fail
  refine (vget_at w4 gs _ hs 2 0 [97, 98] ⟨[], 0⟩ get_ab.2.1 get_ab.2.2.1 get_ab.2.2.2 get_ab.1).mono ?_
  rintro e w5 ⟨rfl, hs5, hT⟩
  replace hV0 := hT.blk hV0 (by omega)
  replace hr2 := hT.rd_sc hs hr2
  replace ht := hT.sc hs ht (by omega)
  replace hb0 := hT.below hb0 hb0.size (by omega)
  clear hs hT
  go_wp2_with fail
  obtain ⟨hX, hb6⟩ := box3 w5 23 (.int .i64 2) (.int .i64 0) (.string ⟨#[97, 98]⟩)
  have hXt : gt < w5.heap.size := ht.lt
  replace hV0 := hV0.below hb6 hV0.lt
  replace hr2 := hr2.below hb6
  replace hs5 := hs5.below hb6
  replace ht := ht.below hb6
  replace hb0 := below_next hb0 (Nat.le_refl _) hb6
  generalize w5.heap.size = gx at *
  generalize w5.alloc (.cells #[.int .i64 2, .int .i64 0, .string ⟨#[97, 98]⟩] 23) = w6 at *
  clear hb6
  refine (vget_at w6 gt _ ht 0 0 [] ⟨[], 3⟩ (Vals.get_bad _ (by rw [get_00]; decide)).1 (Vals.get_bad _ (by rw [get_00]; decide)).2.1 (Vals.get_bad _ (by rw [get_00]; decide)).2.2 get_00).mono ?_
  rintro e w7 ⟨rfl, ht7, hT⟩
  replace hV0 := hT.blk hV0 (by omega)
  replace hX := hT.blk hX (by omega)
  replace hr2 := hT.rd_sc ht hr2
  replace hs5 := hT.sc ht hs5 (by omega)
  replace hb0 := hT.below hb0 hb0.size (by omega)
  clear ht hT
  obtain ⟨hY, hb8⟩ := box3 w7 23 (.int .i64 0) (.int .i64 0) (.string ⟨#[]⟩)
  have hgy : w.heap.size < w7.heap.size := hV0.lt
  have hstr := str_below c hr2 (n := 5) rfl hb8
  replace hV0 := hV0.below hb8 hV0.lt
  replace hX := hX.below hb8 hX.lt
  replace hs5 := hs5.below hb8
  replace ht7 := ht7.below hb8
  replace hb0 := below_next hb0 (Nat.le_refl _) hb8
  obtain ⟨v0, v1, v2, _, _, _⟩ := blk3 hV0
  obtain ⟨x0, x1, x2, _, _, _⟩ := blk3 hX
  have hE0 := eqV 2 0 2 0 [97, 98] [97, 98] (w7.alloc (.cells #[.int .i64 0, .int .i64 0, .string ⟨#[]⟩] 23))
  have hG := eqGuardV
  clear hb8 hr2
  go_wp2_with fail
  obtain ⟨y0, y1, y2, _, _, _⟩ := blk3 hY
  generalize w7.alloc (.cells #[.int .i64 0, .int .i64 0, .string ⟨#[]⟩] 23) = w8 at *
  clear hstr x0 x1 x2 v0 v1 v2 hE0 hX
  refine (end_at w8 gs _ hs5 0 rfl).mono ?_
  rintro e w9 ⟨rfl, rfl⟩
  have hE0 := eqV 0 0 0 0 [] [] w8
  go_wp2_with fail
  refine (err_at w8 gt _ ht7 3 rfl).mono ?_
  rintro e w9 ⟨rfl, rfl⟩
  clear hE0 y0 y1 y2 hs5 ht7 hY
  obtain ⟨v0, v1, v2, _, _, _⟩ := blk3 hV0
  go_wp2_with fail
  refine (right_is 2 0 [97, 98] w8 (by decide) true rfl).mono ?_
  rintro e w9 ⟨rfl, hb9⟩
  replace hV0 := hV0.below hb9 hV0.lt
  replace hb0 := below_next hb0 (Nat.le_refl _) hb9
  clear v0 v1 v2 hb9
  go_wp2_with fail
  refine (right_is 0 0 [] w9 (by decide) false rfl).mono ?_
  rintro e w10 ⟨rfl, hb9⟩
  replace hV0 := hV0.below hb9 hV0.lt
  replace hb0 := below_next hb0 (Nat.le_refl _) hb9
  clear hb9
  obtain ⟨v0, v1, v2, _, _, _⟩ := blk3 hV0
  go_wp2_with fail
  refine (compare_is 2 0 [97, 98] 2 0 [98] (-1) (by rfl) w10).mono ?_
  rintro e w11 ⟨rfl, hb9⟩
  replace hV0 := hV0.below hb9 hV0.lt
  replace hb0 := below_next hb0 (Nat.le_refl _) hb9
  clear v0 v1 v2 hb9
  obtain ⟨v0, v1, v2, _, _, _⟩ := blk3 hV0
  go_wp2_with fail
  refine (compare_is 3 0 [] 2 0 [97, 98] 1 (by rfl) w11).mono ?_
  rintro e w12 ⟨rfl, hb9⟩
  replace hV0 := hV0.below hb9 hV0.lt
  replace hb0 := below_next hb0 (Nat.le_refl _) hb9
  clear v0 v1 v2 hb9
  obtain ⟨v0, v1, v2, _, _, _⟩ := blk3 hV0
  go_wp2_with fail
  refine (compare_is 2 0 [97, 98] 2 0 [97, 98] 0 (by rfl) w12).mono ?_
  rintro e w13 ⟨rfl, hb9⟩
  replace hb0 := below_next hb0 (Nat.le_refl _) hb9
  clear v0 v1 v2 hb9 hV0
  go_wp2_with fail
  go_ret
  exact ⟨rfl, hb0⟩
end Go.Proofs.Ytkalpobgchnbaaa
