/- Contracts of the program and of the document (GSml), each used further on. -/
import Derived.Test.YtlbendiggdmljaaGreatM9
namespace Go.Proofs.YtlbendiggdmljaaGreat
open Go.RowKit Spans Op
set_option maxRecDepth 100000 in
theorem sm1_at (o k : Int) (w : World) : Calls Tryz.prog 33 #[.int .i64 o, .int .i64 k] w fun e w' => e = .returned (.agg #[.string ⟨#[97]⟩, .int .i64 o, .int .i64 1, .int .i64 k, .string ⟨#[]⟩]) ∧ Grown w w' := by
  go_enter Tryz.func33, Tryz.ntmps33
  go_wp2_with fail
  refine bodyPost_ret (v := .agg #[.string ⟨#[97]⟩, .int .i64 o, .int .i64 1, .int .i64 k, .string ⟨#[]⟩]) (by simp [results, Tryz.results33, go_sem]) rfl ?_
  exact ⟨rfl, gr1 _ _⟩
/-- Rows of predicates are no scan's block. -/
theorem rdq_touch {w w' : World} {g : Nat} {T : TypeId} {s : Wire.St} {A : Option Addr} {es : List Pr} (h : RdQ w A es) (hs : Sc w g T s) (ht : Touch g w w') : RdQ w' A es := by
  rcases h with h | ⟨q, off, rfl, hq, hc⟩
  · exact .inl h
  · cases es with
    | nil => exact .inl rfl
    | cons x xs =>
      refine .inr ⟨q, off, rfl, Nat.lt_of_lt_of_le hq ht.size, fun i hi j v hv => World.grownBy.cell ht (hc i hi j v hv) (fun e => ?_)⟩
      injection e with e
      subst e
      obtain ⟨A', n, cap, hB, _⟩ := hs
      have h0 := hc 0 (by simp) 0 _ rfl
      rw [hB.cell] at h0
      simp only [Nat.zero_mul, Nat.add_zero] at h0
      match off with
      | 0 => simp at h0
      | 1 => simp at h0
      | off + 2 => simp at h0
theorem pb_ip (o k : Int) (h1 : -9223372036854775808 ≤ k) (h2 : k ≤ 9223372036854775807) : PBd [ip o k] := fun p hp => by
  simp at hp
  subst hp
  exact ⟨by simp [ip], by simp [ip], h1, h2⟩
theorem pb1 : PBd f1 := by unfold PBd; decide
theorem pb2 : PBd f2 := by unfold PBd; decide
theorem pb3 : PBd f3 := by unfold PBd; decide
theorem pbO : PBd o1 := by unfold PBd; decide
theorem evb : ∀ a ∈ ([⟨[97], 1, 5, []⟩] : List Ev.At), a.n.length ≤ maxLen ∧ a.t.length ≤ maxLen := by rw [maxLen_num]; decide
set_option maxRecDepth 100000 in
set_option maxHeartbeats 8000000 in
theorem small_at (w0 : World) : Calls Tryz.prog 9 #[] w0 fun e w' => e = .returned (.bool true) ∧ Below w0.heap.size w0 w' := by
  have BB : Hid (Below w0.heap.size w0 w0) := Below.refl _ _
  go_enter Tryz.func9, Tryz.ntmps9
  go_wp2_with fail
  refine (sm1_at 3 6 w0).mono ?_
  rintro e w1 ⟨rfl, hg⟩
  have hb := hg.below
  clear hg
  replace BB := Lib.hid (below_next BB.out (Nat.le_refl _) hb)
  clear hb
  go_wp2_with fail
  refine (sm1_at 5 3 w1).mono ?_
  rintro e w2 ⟨rfl, hg⟩
  have hb := hg.below
  clear hg
  replace BB := Lib.hid (below_next BB.out (Nat.le_refl _) hb)
  clear hb
  go_wp2_with fail
  have R1 := Lib.hid (rdk_lit layP w2 f1 35 #[.string ⟨#[97]⟩, .int .i64 3, .int .i64 1, .int .i64 6, .string ⟨#[]⟩, .string ⟨#[97]⟩, .int .i64 5, .int .i64 1, .int .i64 3, .string ⟨#[]⟩] rfl)
  have hb : Below w2.heap.size w2 (w2.alloc (.cells #[.string ⟨#[97]⟩, .int .i64 3, .int .i64 1, .int .i64 6, .string ⟨#[]⟩, .string ⟨#[97]⟩, .int .i64 5, .int .i64 1, .int .i64 3, .string ⟨#[]⟩] 35)) := (Below.refl _ _).alloc (Nat.le_refl _) _
  replace BB := Lib.hid (below_next BB.out (Nat.le_refl _) hb)
  clear hb
  generalize (w2.alloc (.cells #[.string ⟨#[97]⟩, .int .i64 3, .int .i64 1, .int .i64 6, .string ⟨#[]⟩, .string ⟨#[97]⟩, .int .i64 5, .int .i64 1, .int .i64 3, .string ⟨#[]⟩] 35)) = w3 at *
  refine (norm_at (some ⟨w2.heap.size, 0, none⟩) f1 2 2 rfl (by decide) pb1 w3 R1.out).mono ?_
  rintro e w4 ⟨out, er, A4, n4, c4, rfl, hno, hl, hc4, ho, hb⟩
  obtain ⟨rfl, rfl⟩ := hno.one n1
  obtain rfl : n4 = 2 := hl.symm
  obtain ⟨_, _, e1, _, hrd⟩ := OwnK.rd ho
  injection e1 with e1 e2 e3
  subst e1
  have RF := Lib.hid hrd
  clear hrd e2 e3
  clear hno hl ho
  replace BB := Lib.hid (below_next BB.out (Nat.le_refl _) hb)
  replace R1 := Lib.hid (RdK.below R1.out hb)
  clear hb
  go_wp2_with fail
  clear R1
  refine (sm1_at 3 3 w4).mono ?_
  rintro e w5 ⟨rfl, hg⟩
  have hb := hg.below
  clear hg
  replace BB := Lib.hid (below_next BB.out (Nat.le_refl _) hb)
  replace RF := Lib.hid (RdK.below RF.out hb)
  clear hb
  go_wp2_with fail
  refine (sm1_at 5 3 w5).mono ?_
  rintro e w6 ⟨rfl, hg⟩
  have hb := hg.below
  clear hg
  replace BB := Lib.hid (below_next BB.out (Nat.le_refl _) hb)
  replace RF := Lib.hid (RdK.below RF.out hb)
  clear hb
  go_wp2_with fail
  have R2 := Lib.hid (rdk_lit layP w6 f2 35 #[.string ⟨#[97]⟩, .int .i64 3, .int .i64 1, .int .i64 3, .string ⟨#[]⟩, .string ⟨#[97]⟩, .int .i64 5, .int .i64 1, .int .i64 3, .string ⟨#[]⟩] rfl)
  have hb : Below w6.heap.size w6 (w6.alloc (.cells #[.string ⟨#[97]⟩, .int .i64 3, .int .i64 1, .int .i64 3, .string ⟨#[]⟩, .string ⟨#[97]⟩, .int .i64 5, .int .i64 1, .int .i64 3, .string ⟨#[]⟩] 35)) := (Below.refl _ _).alloc (Nat.le_refl _) _
  replace BB := Lib.hid (below_next BB.out (Nat.le_refl _) hb)
  replace RF := Lib.hid (RdK.below RF.out hb)
  clear hb
  generalize (w6.alloc (.cells #[.string ⟨#[97]⟩, .int .i64 3, .int .i64 1, .int .i64 3, .string ⟨#[]⟩, .string ⟨#[97]⟩, .int .i64 5, .int .i64 1, .int .i64 3, .string ⟨#[]⟩] 35)) = w7 at *
  refine (norm_at (some ⟨w6.heap.size, 0, none⟩) f2 2 2 rfl (by decide) pb2 w7 R2.out).mono ?_
  rintro e w8 ⟨out, er, A8, n8, c8, rfl, hno, hl, hc8, ho, hb⟩
  obtain ⟨rfl, rfl⟩ := hno.one n2
  obtain rfl : n8 = 0 := hl.symm
  clear hno hl ho
  replace BB := Lib.hid (below_next BB.out (Nat.le_refl _) hb)
  replace RF := Lib.hid (RdK.below RF.out hb)
  replace R2 := Lib.hid (RdK.below R2.out hb)
  clear hb
  go_wp2_with fail
  clear R2
  have R3 := Lib.hid (rdk_lit layP w8 f3 35 #[.string ⟨#[97]⟩, .int .i64 0, .int .i64 0, .int .i64 0, .string ⟨#[]⟩] rfl)
  have hb : Below w8.heap.size w8 (w8.alloc (.cells #[.string ⟨#[97]⟩, .int .i64 0, .int .i64 0, .int .i64 0, .string ⟨#[]⟩] 35)) := (Below.refl _ _).alloc (Nat.le_refl _) _
  replace BB := Lib.hid (below_next BB.out (Nat.le_refl _) hb)
  replace RF := Lib.hid (RdK.below RF.out hb)
  clear hb
  generalize (w8.alloc (.cells #[.string ⟨#[97]⟩, .int .i64 0, .int .i64 0, .int .i64 0, .string ⟨#[]⟩] 35)) = w9 at *
  refine (norm_at (some ⟨w8.heap.size, 0, none⟩) f3 1 1 rfl (by decide) pb3 w9 R3.out).mono ?_
  rintro e w10 ⟨out, er, A10, n10, c10, rfl, hno, hl, hc10, ho, hb⟩
  obtain ⟨rfl, rfl⟩ := hno.one n3
  obtain rfl : n10 = 0 := hl.symm
  clear hno hl ho
  replace BB := Lib.hid (below_next BB.out (Nat.le_refl _) hb)
  replace RF := Lib.hid (RdK.below RF.out hb)
  replace R3 := Lib.hid (RdK.below R3.out hb)
  clear hb
  go_wp2_with fail
  clear R3
  refine (fput_at none [] 0 0 rfl (by decide) A4 o1 2 c4 rfl (by decide) pbO w10 (.inl rfl) RF.out).mono ?_
  rintro e w11 ⟨fs, hfl, hf8, D, cc, rfl, hcc, hb, hrd⟩
  obtain rfl := hfl.one (.inl ⟨n1', rfl⟩)
  rw [List.nil_append] at hrd
  obtain ⟨q, hq⟩ : ∃ q, (fbytes o1).length = q := ⟨_, rfl⟩
  have HQ := Lib.hid hq
  simp only [hq, Nat.zero_add] at hcc ⊢
  have RB := Lib.hid hrd
  have hq8 : q ≤ 8000 := by rw [← hq]; exact hf8
  clear hfl hf8 hrd hq
  replace BB := Lib.hid (below_next BB.out (Nat.le_refl _) hb)
  replace RF := Lib.hid (RdK.below RF.out hb)
  clear hb
  go_wp2_with fail
  refine (on_at D (fbytes o1) q cc HQ.out (by omega) w11 RB.out).mono ?_
  rintro e w12 ⟨gs, rfl, hgs, hb, hsc⟩
  have SS := Lib.hid hsc
  have hg0 : w0.heap.size ≤ gs := Nat.le_trans BB.out.size hgs
  clear hsc hgs
  replace BB := Lib.hid (below_next BB.out (Nat.le_refl _) hb)
  replace RF := Lib.hid (RdK.below RF.out hb)
  replace RB := Lib.hid (Rd.below RB.out hb)
  clear hb
  go_wp2_with fail
  clear RB
  have RC := Lib.hid (Blk.rd (bs := [1, 1, 97, 3, 1, 2]) (Blk.new w12 5 #[.int .u8 1, .int .u8 1, .int .u8 97, .int .u8 3, .int .u8 1, .int .u8 2]))
  have hb : Below w12.heap.size w12 (w12.alloc (.cells #[.int .u8 1, .int .u8 1, .int .u8 97, .int .u8 3, .int .u8 1, .int .u8 2] 5)) := (Below.refl _ _).alloc (Nat.le_refl _) _
  replace BB := Lib.hid (below_next BB.out (Nat.le_refl _) hb)
  replace RF := Lib.hid (RdK.below RF.out hb)
  replace SS := Lib.hid (Sc.below SS.out hb)
  clear hb
  generalize (w12.alloc (.cells #[.int .u8 1, .int .u8 1, .int .u8 97, .int .u8 3, .int .u8 1, .int .u8 2] 5)) = w13 at *
  refine (on_at (some ⟨w12.heap.size, 0, none⟩) [1, 1, 97, 3, 1, 2] 6 6 rfl (by decide) w13 RC.out).mono ?_
  rintro e w14 ⟨gt, rfl, hgt, hb, hsc⟩
  have ST := Lib.hid hsc
  have hg1 : w0.heap.size ≤ gt := Nat.le_trans BB.out.size hgt
  have hne : gs ≠ gt := by have := SS.out.lt; omega
  clear hsc hgt
  replace BB := Lib.hid (below_next BB.out (Nat.le_refl _) hb)
  replace RF := Lib.hid (RdK.below RF.out hb)
  replace SS := Lib.hid (Sc.below SS.out hb)
  replace RC := Lib.hid (Rd.below RC.out hb)
  clear hb
  go_wp2_with fail
  clear RC
  refine (fget_at w14 gs _ SS.out).mono ?_
  rintro e w15 ⟨f15, s15, A15, n15, c15, hgi, rfl, hln, _, hc15, ho, hs, ht⟩
  obtain ⟨rfl, rfl⟩ := hgi.one get1
  obtain rfl : n15 = 2 := hln.symm
  replace BB := Lib.hid (ht.below BB.out BB.out.size hg0)
  replace RF := Lib.hid (rdq_touch RF.out SS.out ht)
  replace ST := Lib.hid (Touch.sc ht SS.out ST.out hne.symm)
  obtain ⟨_, _, e1, _, hrd⟩ := OwnK.rd ho
  injection e1 with e1 e2 e3
  subst e1
  have XR := Lib.hid hrd
  clear hrd e2 e3
  replace SS := Lib.hid hs
  clear hgi hln ho hs ht
  go_wp2_with fail
  refine (fget_at w15 gt _ ST.out).mono ?_
  rintro e w16 ⟨f16, s16, A16, n16, c16, hgi, rfl, hln, _, hc16, ho, hs, ht⟩
  obtain ⟨rfl, rfl⟩ := hgi.one get4
  obtain rfl : n16 = 0 := hln.symm
  replace BB := Lib.hid (ht.below BB.out BB.out.size hg1)
  replace RF := Lib.hid (rdq_touch RF.out ST.out ht)
  replace XR := Lib.hid (rdq_touch XR.out ST.out ht)
  replace SS := Lib.hid (Touch.sc ht ST.out SS.out hne)
  replace ST := Lib.hid hs
  clear hgi hln ho hs ht
  go_wp2_with fail
  have RC := Lib.hid (Blk.rd (bs := [0]) (Blk.new w16 5 #[.int .u8 0]))
  have hb : Below w16.heap.size w16 (w16.alloc (.cells #[.int .u8 0] 5)) := (Below.refl _ _).alloc (Nat.le_refl _) _
  replace BB := Lib.hid (below_next BB.out (Nat.le_refl _) hb)
  replace RF := Lib.hid (RdK.below RF.out hb)
  replace SS := Lib.hid (Sc.below SS.out hb)
  replace ST := Lib.hid (Sc.below ST.out hb)
  replace XR := Lib.hid (RdK.below XR.out hb)
  clear hb
  generalize (w16.alloc (.cells #[.int .u8 0] 5)) = w17 at *
  refine (on_at (some ⟨w16.heap.size, 0, none⟩) [0] 1 1 rfl (by decide) w17 RC.out).mono ?_
  rintro e w18 ⟨gz, rfl, hgz, hb, hsc⟩
  have SZ := Lib.hid hsc
  have hg2 : w0.heap.size ≤ gz := Nat.le_trans BB.out.size hgz
  have hn1 : gs ≠ gz := by have := SS.out.lt; omega
  have hn2 : gt ≠ gz := by have := ST.out.lt; omega
  clear hsc hgz
  replace BB := Lib.hid (below_next BB.out (Nat.le_refl _) hb)
  replace RF := Lib.hid (RdK.below RF.out hb)
  replace SS := Lib.hid (Sc.below SS.out hb)
  replace ST := Lib.hid (Sc.below ST.out hb)
  replace XR := Lib.hid (RdK.below XR.out hb)
  replace RC := Lib.hid (Rd.below RC.out hb)
  clear hb
  go_wp2_with fail
  clear RC
  refine (fget_at w18 gz _ SZ.out).mono ?_
  rintro e w19 ⟨f19, s19, A19, n19, c19, hgi, rfl, hln, _, hc19, ho, hs, ht⟩
  obtain ⟨rfl, rfl⟩ := hgi.one get0
  obtain rfl : n19 = 0 := hln.symm
  replace BB := Lib.hid (ht.below BB.out BB.out.size hg2)
  replace RF := Lib.hid (rdq_touch RF.out SZ.out ht)
  replace XR := Lib.hid (rdq_touch XR.out SZ.out ht)
  replace SS := Lib.hid (Touch.sc ht SZ.out SS.out hn1)
  replace ST := Lib.hid (Touch.sc ht SZ.out ST.out hn2)
  replace SZ := Lib.hid hs
  clear hgi hln ho hs ht
  go_wp2_with fail
  clear SZ
  have EV := Lib.hid (rda_one w19 ⟨[97], 1, 5, []⟩ 53)
  have hb : Below w19.heap.size w19 (w19.alloc (.cells #[.string ⟨#[97]⟩, .int .i64 1, .int .i64 5, .string ⟨#[]⟩] 53)) := (Below.refl _ _).alloc (Nat.le_refl _) _
  replace BB := Lib.hid (below_next BB.out (Nat.le_refl _) hb)
  replace RF := Lib.hid (RdK.below RF.out hb)
  replace SS := Lib.hid (Sc.below SS.out hb)
  replace ST := Lib.hid (Sc.below ST.out hb)
  replace XR := Lib.hid (RdK.below XR.out hb)
  clear hb
  generalize (w19.alloc (.cells #[.string ⟨#[97]⟩, .int .i64 1, .int .i64 5, .string ⟨#[]⟩] 53)) = w20 at *
  refine (sm1_at 6 4 w20).mono ?_
  rintro e w21 ⟨rfl, hg⟩
  have hb := hg.below
  clear hg
  replace BB := Lib.hid (below_next BB.out (Nat.le_refl _) hb)
  replace RF := Lib.hid (RdK.below RF.out hb)
  replace SS := Lib.hid (Sc.below SS.out hb)
  replace ST := Lib.hid (Sc.below ST.out hb)
  replace XR := Lib.hid (RdK.below XR.out hb)
  replace EV := Lib.hid (RdA.below EV.out hb)
  clear hb
  go_wp2_with fail
  refine (sm1_at 4 5 w21).mono ?_
  rintro e w22 ⟨rfl, hg⟩
  have hb := hg.below
  clear hg
  replace BB := Lib.hid (below_next BB.out (Nat.le_refl _) hb)
  replace RF := Lib.hid (RdK.below RF.out hb)
  replace SS := Lib.hid (Sc.below SS.out hb)
  replace ST := Lib.hid (Sc.below ST.out hb)
  replace XR := Lib.hid (RdK.below XR.out hb)
  replace EV := Lib.hid (RdA.below EV.out hb)
  clear hb
  go_wp2_with fail
  have RL := Lib.hid (rdk_lit layP w22 o1 35 #[.string ⟨#[97]⟩, .int .i64 6, .int .i64 1, .int .i64 4, .string ⟨#[]⟩, .string ⟨#[97]⟩, .int .i64 4, .int .i64 1, .int .i64 5, .string ⟨#[]⟩] rfl)
  have hb : Below w22.heap.size w22 (w22.alloc (.cells #[.string ⟨#[97]⟩, .int .i64 6, .int .i64 1, .int .i64 4, .string ⟨#[]⟩, .string ⟨#[97]⟩, .int .i64 4, .int .i64 1, .int .i64 5, .string ⟨#[]⟩] 35)) := (Below.refl _ _).alloc (Nat.le_refl _) _
  replace BB := Lib.hid (below_next BB.out (Nat.le_refl _) hb)
  replace RF := Lib.hid (RdK.below RF.out hb)
  replace SS := Lib.hid (Sc.below SS.out hb)
  replace ST := Lib.hid (Sc.below ST.out hb)
  replace XR := Lib.hid (RdK.below XR.out hb)
  replace EV := Lib.hid (RdA.below EV.out hb)
  clear hb
  generalize (w22.alloc (.cells #[.string ⟨#[97]⟩, .int .i64 6, .int .i64 1, .int .i64 4, .string ⟨#[]⟩, .string ⟨#[97]⟩, .int .i64 4, .int .i64 1, .int .i64 5, .string ⟨#[]⟩] 35)) = w23 at *
  refine (samePs_at A4 o1 2 c4 rfl (by decide) (some ⟨w22.heap.size, 0, none⟩) o1 2 2 rfl (by decide) w23 RF.out RL.out true (by decide)).mono ?_
  rintro e w24 ⟨rfl, hg⟩
  have hb := hg.below
  clear hg
  replace BB := Lib.hid (below_next BB.out (Nat.le_refl _) hb)
  replace RF := Lib.hid (RdK.below RF.out hb)
  replace SS := Lib.hid (Sc.below SS.out hb)
  replace ST := Lib.hid (Sc.below ST.out hb)
  replace XR := Lib.hid (RdK.below XR.out hb)
  replace EV := Lib.hid (RdA.below EV.out hb)
  replace RL := Lib.hid (RdK.below RL.out hb)
  clear hb
  go_wp2_with fail
  clear RL
  refine (samePs_at A15 o1 2 c15 rfl (by decide) A4 o1 2 c4 rfl (by decide) w24 XR.out RF.out true (by decide)).mono ?_
  rintro e w25 ⟨rfl, hg⟩
  have hb := hg.below
  clear hg
  replace BB := Lib.hid (below_next BB.out (Nat.le_refl _) hb)
  replace RF := Lib.hid (RdK.below RF.out hb)
  replace SS := Lib.hid (Sc.below SS.out hb)
  replace ST := Lib.hid (Sc.below ST.out hb)
  replace XR := Lib.hid (RdK.below XR.out hb)
  replace EV := Lib.hid (RdA.below EV.out hb)
  clear hb
  go_wp2_with fail
  refine (end_at w25 gs _ SS.out 0 rfl).mono ?_
  rintro e wx ⟨rfl, rfl⟩
  go_wp2_with fail
  refine (err_at w25 gt _ ST.out 3 rfl).mono ?_
  rintro e wx ⟨rfl, rfl⟩
  go_wp2_with fail
  refine (fright_at A4 o1 2 c4 rfl (by decide) pbO w25 RF.out).mono ?_
  rintro e w26 ⟨q26, rfl, hq, hb⟩
  obtain rfl : q26 = true := hq.2 n1'
  clear hq
  replace BB := Lib.hid (below_next BB.out (Nat.le_refl _) hb)
  replace RF := Lib.hid (RdK.below RF.out hb)
  replace SS := Lib.hid (Sc.below SS.out hb)
  replace ST := Lib.hid (Sc.below ST.out hb)
  replace XR := Lib.hid (RdK.below XR.out hb)
  replace EV := Lib.hid (RdA.below EV.out hb)
  clear hb
  go_wp2_with fail
  refine (fmeets_at A4 o1 2 c4 rfl (by decide) pbO (some ⟨w19.heap.size, 0, none⟩) [⟨[97], 1, 5, []⟩] 1 1 rfl (by decide) evb w26 RF.out EV.out true m1).mono ?_
  rintro e w27 ⟨rfl, hb⟩
  replace BB := Lib.hid (below_next BB.out (Nat.le_refl _) hb)
  replace RF := Lib.hid (RdK.below RF.out hb)
  replace SS := Lib.hid (Sc.below SS.out hb)
  replace ST := Lib.hid (Sc.below ST.out hb)
  replace XR := Lib.hid (RdK.below XR.out hb)
  replace EV := Lib.hid (RdA.below EV.out hb)
  clear hb
  go_wp2_with fail
  refine (sm1_at 2 5 w27).mono ?_
  rintro e w28 ⟨rfl, hg⟩
  have hb := hg.below
  clear hg
  replace BB := Lib.hid (below_next BB.out (Nat.le_refl _) hb)
  replace RF := Lib.hid (RdK.below RF.out hb)
  replace SS := Lib.hid (Sc.below SS.out hb)
  replace ST := Lib.hid (Sc.below ST.out hb)
  replace XR := Lib.hid (RdK.below XR.out hb)
  replace EV := Lib.hid (RdA.below EV.out hb)
  clear hb
  go_wp2_with fail
  have R4 := Lib.hid (rdk_lit layP w28 [ip 2 5] 35 #[.string ⟨#[97]⟩, .int .i64 2, .int .i64 1, .int .i64 5, .string ⟨#[]⟩] rfl)
  have hb : Below w28.heap.size w28 (w28.alloc (.cells #[.string ⟨#[97]⟩, .int .i64 2, .int .i64 1, .int .i64 5, .string ⟨#[]⟩] 35)) := (Below.refl _ _).alloc (Nat.le_refl _) _
  replace BB := Lib.hid (below_next BB.out (Nat.le_refl _) hb)
  replace RF := Lib.hid (RdK.below RF.out hb)
  replace SS := Lib.hid (Sc.below SS.out hb)
  replace ST := Lib.hid (Sc.below ST.out hb)
  replace XR := Lib.hid (RdK.below XR.out hb)
  replace EV := Lib.hid (RdA.below EV.out hb)
  clear hb
  generalize (w28.alloc (.cells #[.string ⟨#[97]⟩, .int .i64 2, .int .i64 1, .int .i64 5, .string ⟨#[]⟩] 35)) = w29 at *
  refine (fmeets_at (some ⟨w28.heap.size, 0, none⟩) [ip 2 5] 1 1 rfl (by decide) (pb_ip 2 5 (by decide) (by decide)) (some ⟨w19.heap.size, 0, none⟩) [⟨[97], 1, 5, []⟩] 1 1 rfl (by decide) evb w29 R4.out EV.out false m2).mono ?_
  rintro e w30 ⟨rfl, hb⟩
  replace BB := Lib.hid (below_next BB.out (Nat.le_refl _) hb)
  replace RF := Lib.hid (RdK.below RF.out hb)
  replace SS := Lib.hid (Sc.below SS.out hb)
  replace ST := Lib.hid (Sc.below ST.out hb)
  replace XR := Lib.hid (RdK.below XR.out hb)
  replace EV := Lib.hid (RdA.below EV.out hb)
  replace R4 := Lib.hid (RdK.below R4.out hb)
  clear hb
  go_wp2_with fail
  clear R4
  refine (sm1_at 5 0 w30).mono ?_
  rintro e w31 ⟨rfl, hg⟩
  have hb := hg.below
  clear hg
  replace BB := Lib.hid (below_next BB.out (Nat.le_refl _) hb)
  replace RF := Lib.hid (RdK.below RF.out hb)
  replace SS := Lib.hid (Sc.below SS.out hb)
  replace ST := Lib.hid (Sc.below ST.out hb)
  replace XR := Lib.hid (RdK.below XR.out hb)
  replace EV := Lib.hid (RdA.below EV.out hb)
  clear hb
  go_wp2_with fail
  have R4 := Lib.hid (rdk_lit layP w31 [ip 5 0] 35 #[.string ⟨#[97]⟩, .int .i64 5, .int .i64 1, .int .i64 0, .string ⟨#[]⟩] rfl)
  have hb : Below w31.heap.size w31 (w31.alloc (.cells #[.string ⟨#[97]⟩, .int .i64 5, .int .i64 1, .int .i64 0, .string ⟨#[]⟩] 35)) := (Below.refl _ _).alloc (Nat.le_refl _) _
  replace BB := Lib.hid (below_next BB.out (Nat.le_refl _) hb)
  replace RF := Lib.hid (RdK.below RF.out hb)
  replace SS := Lib.hid (Sc.below SS.out hb)
  replace ST := Lib.hid (Sc.below ST.out hb)
  replace XR := Lib.hid (RdK.below XR.out hb)
  replace EV := Lib.hid (RdA.below EV.out hb)
  clear hb
  generalize (w31.alloc (.cells #[.string ⟨#[97]⟩, .int .i64 5, .int .i64 1, .int .i64 0, .string ⟨#[]⟩] 35)) = w32 at *
  refine (covers_at (some ⟨w31.heap.size, 0, none⟩) f5 1 1 rfl (by decide) (pb_ip 5 0 (by decide) (by decide)) A4 o1 2 c4 rfl (by decide) pbO w32 R4.out RF.out).mono ?_
  rintro e w33 ⟨q33, rfl, hq, hb⟩
  obtain rfl : q33 = true := hq.2 cov51
  clear hq
  replace BB := Lib.hid (below_next BB.out (Nat.le_refl _) hb)
  replace RF := Lib.hid (RdK.below RF.out hb)
  replace SS := Lib.hid (Sc.below SS.out hb)
  replace ST := Lib.hid (Sc.below ST.out hb)
  replace XR := Lib.hid (RdK.below XR.out hb)
  replace EV := Lib.hid (RdA.below EV.out hb)
  replace R4 := Lib.hid (RdK.below R4.out hb)
  clear hb
  go_wp2_with fail
  clear R4
  refine (sm1_at 5 0 w33).mono ?_
  rintro e w34 ⟨rfl, hg⟩
  have hb := hg.below
  clear hg
  replace BB := Lib.hid (below_next BB.out (Nat.le_refl _) hb)
  replace RF := Lib.hid (RdK.below RF.out hb)
  replace SS := Lib.hid (Sc.below SS.out hb)
  replace ST := Lib.hid (Sc.below ST.out hb)
  replace XR := Lib.hid (RdK.below XR.out hb)
  replace EV := Lib.hid (RdA.below EV.out hb)
  clear hb
  go_wp2_with fail
  have R4 := Lib.hid (rdk_lit layP w34 [ip 5 0] 35 #[.string ⟨#[97]⟩, .int .i64 5, .int .i64 1, .int .i64 0, .string ⟨#[]⟩] rfl)
  have hb : Below w34.heap.size w34 (w34.alloc (.cells #[.string ⟨#[97]⟩, .int .i64 5, .int .i64 1, .int .i64 0, .string ⟨#[]⟩] 35)) := (Below.refl _ _).alloc (Nat.le_refl _) _
  replace BB := Lib.hid (below_next BB.out (Nat.le_refl _) hb)
  replace RF := Lib.hid (RdK.below RF.out hb)
  replace SS := Lib.hid (Sc.below SS.out hb)
  replace ST := Lib.hid (Sc.below ST.out hb)
  replace XR := Lib.hid (RdK.below XR.out hb)
  replace EV := Lib.hid (RdA.below EV.out hb)
  clear hb
  generalize (w34.alloc (.cells #[.string ⟨#[97]⟩, .int .i64 5, .int .i64 1, .int .i64 0, .string ⟨#[]⟩] 35)) = w35 at *
  refine (covers_at A4 o1 2 c4 rfl (by decide) pbO (some ⟨w34.heap.size, 0, none⟩) f5 1 1 rfl (by decide) (pb_ip 5 0 (by decide) (by decide)) w35 RF.out R4.out).mono ?_
  rintro e w36 ⟨q36, rfl, hq, hb⟩
  obtain rfl : q36 = false := by cases q36 with | false => rfl | true => exact absurd (hq.1 rfl) ncov15
  clear hq
  replace BB := Lib.hid (below_next BB.out (Nat.le_refl _) hb)
  replace RF := Lib.hid (RdK.below RF.out hb)
  replace SS := Lib.hid (Sc.below SS.out hb)
  replace ST := Lib.hid (Sc.below ST.out hb)
  replace XR := Lib.hid (RdK.below XR.out hb)
  replace EV := Lib.hid (RdA.below EV.out hb)
  replace R4 := Lib.hid (RdK.below R4.out hb)
  clear hb
  go_wp2_with fail
  clear R4
  refine (sm1_at 1 4 w36).mono ?_
  rintro e w37 ⟨rfl, hg⟩
  have hb := hg.below
  clear hg
  replace BB := Lib.hid (below_next BB.out (Nat.le_refl _) hb)
  replace RF := Lib.hid (RdK.below RF.out hb)
  replace SS := Lib.hid (Sc.below SS.out hb)
  replace ST := Lib.hid (Sc.below ST.out hb)
  replace XR := Lib.hid (RdK.below XR.out hb)
  replace EV := Lib.hid (RdA.below EV.out hb)
  clear hb
  go_wp2_with fail
  have R4 := Lib.hid (rdk_lit layP w37 [ip 1 4] 35 #[.string ⟨#[97]⟩, .int .i64 1, .int .i64 1, .int .i64 4, .string ⟨#[]⟩] rfl)
  have hb : Below w37.heap.size w37 (w37.alloc (.cells #[.string ⟨#[97]⟩, .int .i64 1, .int .i64 1, .int .i64 4, .string ⟨#[]⟩] 35)) := (Below.refl _ _).alloc (Nat.le_refl _) _
  replace BB := Lib.hid (below_next BB.out (Nat.le_refl _) hb)
  replace RF := Lib.hid (RdK.below RF.out hb)
  replace SS := Lib.hid (Sc.below SS.out hb)
  replace ST := Lib.hid (Sc.below ST.out hb)
  replace XR := Lib.hid (RdK.below XR.out hb)
  replace EV := Lib.hid (RdA.below EV.out hb)
  clear hb
  generalize (w37.alloc (.cells #[.string ⟨#[97]⟩, .int .i64 1, .int .i64 1, .int .i64 4, .string ⟨#[]⟩] 35)) = w38 at *
  refine (crosses_at A4 o1 2 c4 rfl (by decide) pbO (some ⟨w37.heap.size, 0, none⟩) [ip 1 4] 1 1 rfl (by decide) (pb_ip 1 4 (by decide) (by decide)) w38 RF.out R4.out).mono ?_
  rintro e w39 ⟨q39, rfl, hq, hb⟩
  obtain rfl : q39 = true := hq.2 x14
  clear hq
  replace BB := Lib.hid (below_next BB.out (Nat.le_refl _) hb)
  replace RF := Lib.hid (RdK.below RF.out hb)
  replace SS := Lib.hid (Sc.below SS.out hb)
  replace ST := Lib.hid (Sc.below ST.out hb)
  replace XR := Lib.hid (RdK.below XR.out hb)
  replace EV := Lib.hid (RdA.below EV.out hb)
  replace R4 := Lib.hid (RdK.below R4.out hb)
  clear hb
  go_wp2_with fail
  clear R4
  refine (sm1_at 1 3 w39).mono ?_
  rintro e w40 ⟨rfl, hg⟩
  have hb := hg.below
  clear hg
  replace BB := Lib.hid (below_next BB.out (Nat.le_refl _) hb)
  replace RF := Lib.hid (RdK.below RF.out hb)
  replace SS := Lib.hid (Sc.below SS.out hb)
  replace ST := Lib.hid (Sc.below ST.out hb)
  replace XR := Lib.hid (RdK.below XR.out hb)
  replace EV := Lib.hid (RdA.below EV.out hb)
  clear hb
  go_wp2_with fail
  have R4 := Lib.hid (rdk_lit layP w40 [ip 1 3] 35 #[.string ⟨#[97]⟩, .int .i64 1, .int .i64 1, .int .i64 3, .string ⟨#[]⟩] rfl)
  have hb : Below w40.heap.size w40 (w40.alloc (.cells #[.string ⟨#[97]⟩, .int .i64 1, .int .i64 1, .int .i64 3, .string ⟨#[]⟩] 35)) := (Below.refl _ _).alloc (Nat.le_refl _) _
  replace BB := Lib.hid (below_next BB.out (Nat.le_refl _) hb)
  replace RF := Lib.hid (RdK.below RF.out hb)
  replace SS := Lib.hid (Sc.below SS.out hb)
  replace ST := Lib.hid (Sc.below ST.out hb)
  replace XR := Lib.hid (RdK.below XR.out hb)
  replace EV := Lib.hid (RdA.below EV.out hb)
  clear hb
  generalize (w40.alloc (.cells #[.string ⟨#[97]⟩, .int .i64 1, .int .i64 1, .int .i64 3, .string ⟨#[]⟩] 35)) = w41 at *
  refine (crosses_at A4 o1 2 c4 rfl (by decide) pbO (some ⟨w40.heap.size, 0, none⟩) [ip 1 3] 1 1 rfl (by decide) (pb_ip 1 3 (by decide) (by decide)) w41 RF.out R4.out).mono ?_
  rintro e w42 ⟨q42, rfl, hq, hb⟩
  obtain rfl : q42 = false := by cases q42 with | false => rfl | true => exact absurd (hq.1 rfl) x13
  clear hq
  replace BB := Lib.hid (below_next BB.out (Nat.le_refl _) hb)
  replace RF := Lib.hid (RdK.below RF.out hb)
  replace SS := Lib.hid (Sc.below SS.out hb)
  replace ST := Lib.hid (Sc.below ST.out hb)
  replace XR := Lib.hid (RdK.below XR.out hb)
  replace EV := Lib.hid (RdA.below EV.out hb)
  replace R4 := Lib.hid (RdK.below R4.out hb)
  clear hb
  go_wp2_with fail
  clear R4
  refine (covers_at none [] 0 0 rfl (by decide) (fun p hp => by cases hp) A4 o1 2 c4 rfl (by decide) pbO w42 (.inl rfl) RF.out).mono ?_
  rintro e w43 ⟨q43, rfl, hq, hb⟩
  obtain rfl : q43 = true := hq.2 cov01
  clear hq
  replace BB := Lib.hid (below_next BB.out (Nat.le_refl _) hb)
  replace RF := Lib.hid (RdK.below RF.out hb)
  replace SS := Lib.hid (Sc.below SS.out hb)
  replace ST := Lib.hid (Sc.below ST.out hb)
  replace XR := Lib.hid (RdK.below XR.out hb)
  replace EV := Lib.hid (RdA.below EV.out hb)
  clear hb
  go_wp2_with fail
  go_ret
  exact ⟨rfl, BB.out⟩
end Go.Proofs.YtlbendiggdmljaaGreat
