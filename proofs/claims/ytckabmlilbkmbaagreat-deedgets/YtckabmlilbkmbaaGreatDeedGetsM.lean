/-
 Deeds are read, one behind the other, as the document's own answer reads them, and the error is the same: for all bytes and every number the call of the law answers true, and all arguments read behind it as they read before. No condition.
-/
import Derived.Test.YtckabmlilbkmbaaGreatX8
import Derived.Test.YtckabmlilbkmbaaGreatY1
set_option maxRecDepth 100000
set_option maxHeartbeats 8000000
namespace Go.Proofs.YtckabmlilbkmbaaGreat
open Go.RowKit Go.ChangeShapes Go.WideShapes Go.ChangeAt Go.Sort Spans Tb Dm Op
theorem dgets_out (w : World) (A : OA) (bs : LU) (len cap : Nat) (m : Int) (hn : bs.length = len) (hm : len <= 140737488355328) (rd : Rd w A bs) (hl : 600 < len ∨ m < 0 ∨ 10 < m) :
  Calls Tryz.prog 5 #[.slice A len cap, .int .i64 m] w fun e w' => e = .returned (.bool true) /\ Below w.heap.size w w' := by
 have HN := Jh hn
 clear hn
 go_enter Tryz.func5, Tryz.ntmps5
 go_wp2_with fail
 refine (dsmall_at w).mono ?_
 rintro e w1 ⟨rfl, hb1⟩
 go_wp2_with fail
 refine (on_at A bs len cap HN.o (by omega) w1 (rd.below hb1)).mono ?_
 rintro e w2 ⟨gs, rfl, hgs, hb2, hs⟩
 have hsw : w.heap.size <= gs := Nat.le_trans hb1.size hgs
 have hbw := below_next hb1 (Jn) hb2
 clear hb1 hb2 hgs
 by_cases a1 : 600 < len
 ·have q1 : decide ((600 : Int) < (len : Int)) = true := by simp; omega
  clear hl a1 hs
  go_wp2_with fail
  go_ret
  exact ⟨rfl, hbw⟩
 ·have q1 : decide ((600 : Int) < (len : Int)) = false := by simp; omega
  by_cases a2 : m < 0
  ·have q2 : decide (m < 0) = true := by simpa using a2
   clear hl a1 a2 hs
   go_wp2_with fail
   go_ret
   exact ⟨rfl, hbw⟩
  ·have q2 : decide (m < 0) = false := by simpa using a2
   have q3 : decide (10 < m) = true := by simp; omega
   clear hl a1 a2 hs
   go_wp2_with fail
   go_ret
   exact ⟨rfl, hbw⟩
def Scx (w : World) (g : Nat) (s : Wire.St) : Prop := Sc w g 55 s ∨ (s = ⟨[], 0⟩ /\ ∃ A cap, Blk w g 55 #[.slice A 0 cap, .int .i64 0])
theorem Scx.lt {w : World} {g : Nat} {s : Wire.St} (h : Scx w g s) : g < w.heap.size := by
 rcases h with h | ⟨_, A, cap, hB⟩
 ·exact h.lt
 ·exact hB.lt
theorem Scx.below {w w' : World} {g : Nat} {s : Wire.St} (h : Scx w g s) (hb : Below w.heap.size w w') : Scx w' g s := by
 rcases h with h | ⟨e, A, cap, hB⟩
 ·exact .inl (h.below hb)
 ·exact .inr ⟨e, A, cap, hB.below hb hB.lt⟩
theorem Touch.scx {w w' : World} {gs gx : Nat} {s st : Wire.St} (h : Touch gs w w') (hs : Sc w gs 88 st) (hx : Scx w gx s) (hne : gx ≠ gs) : Scx w' gx s := by
 rcases hx with hx | ⟨e, A, cap, hB⟩
 ·exact .inl (h.sc hs hx hne)
 ·exact .inr ⟨e, A, cap, h.blk hB hne⟩
theorem refUpto_nil6 (w : World) (g : Nat) (A : OA) (cap : Nat) (hB : Blk w g 55 #[.slice A 0 cap, .int .i64 0]) :
  Calls Tryz.prog 85 #[.pointer (some ⟨g, 0, none⟩), .int .i64 6] w (Reads w g 55 (.int .i64 ((Wire.St.mk [] 0).uptoV 6 : Int)) ((Wire.St.mk [] 0).uptoS 6)) := by
 have hn := refNum_nil w g A cap hB
 have e1 : (Wire.St.mk [] 0).uptoV 6 = 0 := by decide
 have e2 : (Wire.St.mk [] 0).uptoS 6 = (Wire.St.mk [] 0).numS := by rfl
 rw [e1, e2]
 obtain ⟨s1, hs⟩ : ∃ s1, (Wire.St.mk [] 0).numS = s1 := ⟨_, rfl⟩
 have he : s1.err ≠ 0 := by rw [<- hs]; decide
 rw [hs] at hn ⊢
 clear hs e1 e2 hB
 have hd : (s1.err == 0) = false := by simpa using he
 go_enter Tryz.func85, Tryz.ntmps85
 go_wp2_with fail
 refine hn.mono ?_
 rintro e w1 ⟨rfl, hs1, ht1⟩
 have hs0 := hs1
 obtain ⟨A1, n, cap1, hB1, l1, l2, l3, hr⟩ := hs1
 obtain ⟨c0, c1, f0, f1⟩ := blk2 hB1
 clear l1
 go_wp2_with fail
 go_ret
 exact ⟨rfl, hs0, ht1⟩
theorem scx_get (w : World) (g : Nat) (s : Wire.St) (h : Scx w g s) (hfi : s.fine) :
  Calls Tryz.prog 23 #[.pointer (some ⟨g, 0, none⟩)] w (RGetD w g s) := by
 rcases h with h | ⟨rfl, A, cap, hB⟩
 ·exact rdget_at w g s h hfi
 ·exact rdget_from w g ⟨[], 0⟩ hB.lt (fun h => absurd rfl h) fun w' hb => refUpto_nil6 w' g A cap (hB.below hb hB.lt)
theorem dget_fine {s s' : Wire.St} {d : Dd} (h : DGet s d s') (hs : s.fine) : s'.fine := by
 obtain ⟨o, ⟨_, _, h⟩, _⟩ := h
 have h2 : (Dm.s2 s).fine := someS_fine (someS_fine hs 6) _
 rcases h with ⟨_, _, _, _, rfl⟩ | ⟨_, _, _, hg⟩ | ⟨_, _, _, _, _, rfl⟩
 ·exact Wire.St.textS_fine h2 32
 ·exact get_fine hg (someS_fine h2 _)
 ·exact h2
theorem scx_sc {w w' : World} {gs gx : Nat} {s st : Wire.St} (h : Touch gx w w') (hx : Scx w gx st) (hs : Sc w gs 88 s) (hne : gs ≠ gx) : Sc w' gs 88 s := by
 rcases hx with hx | ⟨e, A, cap, hB⟩
 ·exact h.sc hx hs hne
 ·obtain ⟨A2, n2, c2, hB2, h1, h2, h3, hr, ha⟩ := hs
  refine ⟨A2, n2, c2, h.blk hB2 hne, h1, h2, h3, h.rd hr (fun off => ?_), ha⟩
  rcases hr with h0 | ⟨g, of2, hA, hg, hc⟩
  ·exact .inr h0
  ·by_cases hgx : g = gx
   ·subst hgx
    by_cases hn : 0 < s.rest.length
    ·exfalso
     have c0 := hc 0 hn
     by_cases h4 : of2 + 0 = 0
     ·rw [h4, hB.cell 0] at c0; simp at c0
     ·by_cases h5 : of2 + 0 = 1
      ·rw [h5, hB.cell 1] at c0
       simp at c0
      ·have : (#[(.slice A 0 cap : Value), .int .i64 0] : Array Value)[of2 + 0]? = none := Array.getElem?_eq_none (by simp; omega)
       rw [hB.cell, this] at c0; cases c0
    ·exact .inr (List.eq_nil_of_length_eq_zero (by omega))
   ·exact .inl (fun e => hgx (by rw [hA] at e; injection e with e; injection e))
def BothF (w0 w : World) (gs gx : Nat) : Prop := Below w0.heap.size w0 w /\ ∃ st : Wire.St, st.fine /\ Sc w gs 88 st /\ Scx w gx st
theorem dgets_in (w : World) (A : OA) (bs : LU) (len cap : Nat) (m : Nat) (hn : bs.length = len) (hm : len <= 600) (hcap : len <= cap) (hcap2 : cap <= 140737488355328) (rd : Rd w A bs) (hm2 : m <= 10) :
  Calls Tryz.prog 5 #[.slice A len cap, .int .i64 (m : Int)] w fun e w' => e = .returned (.bool true) /\ Below w.heap.size w w' := by
 have HN := Jh hn
 clear hn
 go_enter Tryz.func5, Tryz.ntmps5
 go_wp2_with fail
 refine (dsmall_at w).mono ?_
 rintro e w1 ⟨rfl, hb1⟩
 go_wp2_with fail
 refine (on_at A bs len cap HN.o (by omega) w1 (rd.below hb1)).mono ?_
 rintro e w2 ⟨gs, rfl, hgs, hb2, hs⟩
 have hsw : w.heap.size <= gs := Nat.le_trans hb1.size hgs
 have hbw := below_next hb1 (Jn) hb2
 clear hb1 hb2 hgs
 have q1 : decide ((600 : Int) < (len : Int)) = false := by simp; omega
 have q2 : decide ((m : Int) < 0) = false := by simp
 have q3 : decide (10 < (m : Int)) = false := by simp; omega
 go_wp2_with fail
 have hBx : Blk (w2.alloc (.cells #[.slice A len cap, .int .i64 0] 55)) w2.heap.size 55 #[.slice A len cap, .int .i64 0] := Blk.new w2 _ _
 have hb3 : Below w2.heap.size w2 (w2.alloc (.cells #[.slice A len cap, .int .i64 0] 55)) := (gr1 w2 _).below
 have hxw : w.heap.size <= w2.heap.size := hbw.size
 have hne : gs ≠ w2.heap.size := by have := hs.lt; omega
 have hx0 : Scx (w2.alloc (.cells #[.slice A len cap, .int .i64 0] 55)) w2.heap.size ⟨bs, 0⟩ := by
  have hn := HN.o
  rcases rd with h | ⟨g, off, hA, hg, hc⟩
  ·subst h
   obtain rfl : len = 0 := by rw [<- hn]; rfl
   exact .inr ⟨rfl, A, cap, hBx⟩
  ·refine .inl ⟨A, len, cap, hBx, hn, hcap, hcap2, ?_, fun a ha => ?_⟩
   ·exact Rd.below (Rd.below (.inr ⟨g, off, hA, hg, hc⟩) hbw) hb3
   ·rw [hA] at ha
    injection ha with ha
    subst ha
    show g < w2.heap.size
    omega
 have h0 : BothF w (w2.alloc (.cells #[.slice A len cap, .int .i64 0] 55)) gs w2.heap.size := ⟨below_next hbw (Jn) hb3, ⟨bs, 0⟩, fun h => absurd rfl h, hs.below hb3, hx0⟩
 generalize w2.alloc (.cells #[.slice A len cap, .int .i64 0] 55) = w3 at *
 generalize w2.heap.size = gx at *
 clear q1 q2 q3 hBx hb3 hs hbw hx0
 go_loopw [8] (fun x wr => ∃ q : Nat, q <= m /\ x = .int .i64 (q : Int) /\ BothF w wr gs gx) (fun x _ => m - (intOf x).toNat)
 case atStart => exact ⟨0, by omega, rfl, h0⟩
 case round =>
  clear h0
  obtain ⟨q, hq, rfl, hbr, st, hfi, hs, hx⟩ := hrel
  by_cases hlt : q < m
  ·have w5 : (q : Int) < (m : Int) := by omega
   go_wp2_with fail
   refine (dget_at wr gs st hs).mono ?_
   rintro e w4 ⟨⟨xk, xi, xr, xa, f⟩, s', A3, n3, c3, hG, rfl, hl3, h24, hc3, ho3, hs4, hT4⟩
   dsimp only at hl3 ho3
   have HG := Jh hG
   have HL3 := Jh hl3
   have hb4 := hT4.below hbr hbr.size hsw
   have hx4 := hT4.scx hs hx hne.symm
   have hgx : gx < wr.heap.size := hx.lt
   have O3 := Jh ho3
   have hT4s : gs < w4.heap.size := hs4.lt
   have hT4x : gx < w4.heap.size := hx4.lt
   clear hs hx hT4 hG hl3 ho3
   have hpw : w.heap.size <= w4.heap.size := hb4.size
   have hbx : Below w4.heap.size w4 (w4.alloc (.cells #[.int .i64 xk, .int .i64 xi, .int .i64 xr, .string ⟨xa.toArray⟩, .slice A3 n3 c3] 28)) := (gr1 w4 _).below
   have HP := Jh (Blk.new w4 28 #[.int .i64 xk, .int .i64 xi, .int .i64 xr, .string ⟨xa.toArray⟩, .slice A3 n3 c3])
   replace hs4 := hs4.below hbx
   have hx4 := hx4.below hbx
   replace O3 := Jh (OwnK.below O3.o hbx)
   have hb4 := below_next hb4 (Jn) hbx
   have hgp : gs ≠ w4.heap.size /\ gx ≠ w4.heap.size := ⟨by have := hT4s; omega, by have := hT4x; omega⟩
   go_wp2_with fail
   generalize w4.alloc (.cells #[.int .i64 xk, .int .i64 xi, .int .i64 xr, .string ⟨xa.toArray⟩, .slice A3 n3 c3] 28) = w4b at *
   generalize w4.heap.size = p9 at *
   have hkp : Hid (∀ w', Below w4b.heap.size w4b w' -> Below w.heap.size w w' /\ w'.cell? ⟨p9, 0, none⟩ = some (.int .i64 xk) /\ w'.cell? ⟨p9, 1, none⟩ = some (.int .i64 xi) /\ w'.cell? ⟨p9, 2, none⟩ = some (.int .i64 xr) /\ w'.cell? ⟨p9, 3, none⟩ = some (.string ⟨xa.toArray⟩) /\ w'.cell? ⟨p9, 4, none⟩ = some (.slice A3 n3 c3)) := fun w' h => ⟨below_next hb4 (Jn) h, (HP.o.below h HP.o.lt).cell 0, (HP.o.below h HP.o.lt).cell 1, (HP.o.below h HP.o.lt).cell 2, (HP.o.below h HP.o.lt).cell 3, (HP.o.below h HP.o.lt).cell 4⟩
   have hS0 := hkp.o w4b.drew (Below.refl _ _).drew
   refine wp_region_held_drew (S := fun w' => Below w.heap.size w w' /\ w'.cell? ⟨p9, 0, none⟩ = some (.int .i64 xk) /\ w'.cell? ⟨p9, 1, none⟩ = some (.int .i64 xi) /\ w'.cell? ⟨p9, 2, none⟩ = some (.int .i64 xr) /\ w'.cell? ⟨p9, 3, none⟩ = some (.string ⟨xa.toArray⟩) /\ w'.cell? ⟨p9, 4, none⟩ = some (.slice A3 n3 c3)) (by kernel_rfl) hS0 (fun _ => ?_)
   refine Jz 0 hS0 ?_
   refine Jz 1 hS0 ?_
   replace hs4 := hs4.drew
   have hx5 : Scx w4b.drew gx st := hx4.below (Below.refl _ _).drew
   have O4 : Hid (OwnQ w4b.drew wr.heap.size (.slice A3 n3 c3) f) := OwnK.below O3.o (Below.refl _ _).drew
   clear hx4 O3
   have HPD : Hid (Blk w4b.drew p9 28 #[.int .i64 xk, .int .i64 xi, .int .i64 xr, .string ⟨xa.toArray⟩, .slice A3 n3 c3]) := HP.o
   have hbd : Below w.heap.size w w4b.drew := hb4.drew
   clear hkp HP hb4
   generalize w4b.drew = wd at *
   refine Je 2 (fun Kc hK1 => ?_)
   go_simp
   with_reducible refine (scx_get wd gx st hx5 hfi).mono ?_
   rintro e w5 ⟨⟨yk, yi, yr, ya, f2⟩, s2, A4, n4, c4, hG2, rfl, hl4, h24b, hc4, ho4, hx6, hT5⟩
   dsimp only at hl4 ho4
   obtain ⟨hff, hss⟩ := hG2.one HG.o
   injection hff with h1 h2 h3 h4 h5
   subst h1 h2 h3 h4 h5
   subst hss
   have hb5 := hT5.below hbd hbd.size hxw
   have hP5 := hT5.blk HPD.o hgp.2.symm
   have hs5 : Sc w5 gs 88 s2 := scx_sc hT5 hx5 hs4 hne
   have O5 := Jh (OwnK.touch O4.o hT5 hgx)
   have O6 := Jh ho4
   have HL4 := Jh hl4
   have hfi2 := dget_fine hG2 hfi
   have hS1 : Below w.heap.size w w5 /\ w5.cell? ⟨p9, 0, none⟩ = some (.int .i64 yk) /\ w5.cell? ⟨p9, 1, none⟩ = some (.int .i64 yi) /\ w5.cell? ⟨p9, 2, none⟩ = some (.int .i64 yr) /\ w5.cell? ⟨p9, 3, none⟩ = some (.string ⟨ya.toArray⟩) /\ w5.cell? ⟨p9, 4, none⟩ = some (.slice A3 n3 c3) := ⟨hb5, hP5.cell 0, hP5.cell 1, hP5.cell 2, hP5.cell 3, hP5.cell 4⟩
   clear hs4 hx5 hT5 O4 hG2 hl4 ho4 hS0
   go_wp2_with fail
   refine hK1.o _ _ hS1 ?_
   clear hK1
   refine Je 3 (fun Kc hK2 => ?_)
   have hl3 := HL3.o
   have hl4 := HL4.o
   have hr5 := rdk_own' O5.o
   have hr6 := rdk_own' O6.o
   go_simp
   with_reducible refine (dsame_at yk yi yr ya f2 A3 n3 c3 hl3 (by omega) yk yi yr ya f2 A4 n4 c4 hl4 (by omega) w5 hr5 hr6 true (decide_eq_true rfl)).mono ?_
   rintro e w6 ⟨rfl, hb6⟩
   replace hs5 := hs5.below hb6
   replace hx6 := hx6.below hb6
   have hP6 := hP5.below hb6 hP5.lt
   replace hb5 := below_next hb5 (by have := hb5.size; omega) hb6
   have hS2 : Below w.heap.size w w6 /\ w6.cell? ⟨p9, 0, none⟩ = some (.int .i64 yk) /\ w6.cell? ⟨p9, 1, none⟩ = some (.int .i64 yi) /\ w6.cell? ⟨p9, 2, none⟩ = some (.int .i64 yr) /\ w6.cell? ⟨p9, 3, none⟩ = some (.string ⟨ya.toArray⟩) /\ w6.cell? ⟨p9, 4, none⟩ = some (.slice A3 n3 c3) := ⟨hb5, hP6.cell 0, hP6.cell 1, hP6.cell 2, hP6.cell 3, hP6.cell 4⟩
   clear hb6 hr5 hr6 hP5 hP6 hS1
   go_wp2_with fail
   refine hK2.o _ _ hS2 ?_
   clear hK2
   refine Jz 4 hS2 ?_
   refine Jz 5 hS2 ?_
   have hx7 := hx6
   obtain ⟨A', n', cap', hG, hl', hG'⟩ := hx6
   obtain ⟨z, hz⟩ : ∃ z, s2.err = z := ⟨_, rfl⟩
   rw [hz] at hG
   have HZ := Jh hz
   have HL' := Jh hl'
   have hgl : gx < w6.heap.size := hG.lt
   clear hz hl' hG'
   have hS1 : (Below w.heap.size w w6 /\ w6.cell? ⟨p9, 0, none⟩ = some (.int .i64 yk) /\ w6.cell? ⟨p9, 1, none⟩ = some (.int .i64 yi) /\ w6.cell? ⟨p9, 2, none⟩ = some (.int .i64 yr) /\ w6.cell? ⟨p9, 3, none⟩ = some (.string ⟨ya.toArray⟩) /\ w6.cell? ⟨p9, 4, none⟩ = some (.slice A3 n3 c3)) /\ w6.cell? ⟨gx, 0, none⟩ = some (.slice A' n' cap') /\ w6.cell? ⟨gx, 1, none⟩ = some (.int .i64 z) := ⟨hS2, hG.cell 0, hG.cell 1⟩
   refine wpAnyH_more (S' := fun w' => (Below w.heap.size w w' /\ w'.cell? ⟨p9, 0, none⟩ = some (.int .i64 yk) /\ w'.cell? ⟨p9, 1, none⟩ = some (.int .i64 yi) /\ w'.cell? ⟨p9, 2, none⟩ = some (.int .i64 yr) /\ w'.cell? ⟨p9, 3, none⟩ = some (.string ⟨ya.toArray⟩) /\ w'.cell? ⟨p9, 4, none⟩ = some (.slice A3 n3 c3)) /\ w'.cell? ⟨gx, 0, none⟩ = some (.slice A' n' cap') /\ w'.cell? ⟨gx, 1, none⟩ = some (.int .i64 z)) (fun w' h => h.1) _ _ _ _ ?_
   refine Jz 6 hS1 ?_
   refine Jz 8 hS1 ?_
   refine Jz 9 hS1 ?_
   refine Jz 10 hS1 ?_
   refine Jz 11 hS1 ?_
   refine Jz 12 hS1 ?_
   refine Je 7 (fun Kc hK3 => ?_)
   go_simp
   with_reducible refine (left_at w6 gs s2 hs5 n' HL'.o).mono ?_
   rintro e w7 ⟨rfl, rfl⟩
   go_wp2_with fail
   refine hK3.o _ _ hS1 ?_
   clear hK3
   refine Jz 13 hS1 ?_
   refine Jz 14 hS1 ?_
   refine Jz 15 hS1 ?_
   refine Jz 16 hS1 ?_
   refine Jz 18 hS1 ?_
   refine Jz 19 hS1 ?_
   refine Jz 20 hS1 ?_
   refine Jz 21 hS1 ?_
   refine Je 17 (fun Kc hK4 => ?_)
   go_simp
   with_reducible refine (err_at w6 gs s2 hs5 z HZ.o).mono ?_
   rintro e w7 ⟨rfl, rfl⟩
   go_wp2_with fail
   refine hK4.o _ _ hS1 ?_
   clear hK4
   refine Jz 22 hS1 ?_
   refine Jz 23 hS1 ?_
   refine Jd ?_
   clear hS1 hG
   go_wp2_with fail
   go_roundw
   case rel => exact ⟨q + 1, by omega, by go_num, hb5, s2, hfi2, hs5, .inl hx7⟩
   case measure => simp [intOf]; omega
  ·obtain rfl : q = m := by omega
   go_wp2_with fail
   go_ret
   exact ⟨rfl, hbr⟩
theorem walk_DeedGets (w : World) (A : OA) (bs : LU) (len cap : Nat) (hl : bs.length = len) (hc : len <= cap) (hm : cap <= 140737488351232) (rd : Rd w A bs) (m : Int) (_ : (Lit.int .i64 m).wf = true) :
  Calls Tryz.prog 5 #[.slice A len cap, .int .i64 m] w fun e w' => e = .returned (.bool true) /\ Below w.heap.size w w' := by
 by_cases hout : 600 < len ∨ m < 0 ∨ 10 < m
 ·exact dgets_out w A bs len cap m hl (by omega) rd hout
 ·obtain ⟨k, rfl⟩ := Int.eq_ofNat_of_zero_le (show 0 <= m by omega)
  exact dgets_in w A bs len cap k hl (by omega) hc (by omega) rd (by omega)
/-! ### The row's step. -/
namespace deedGets
theorem own : ownKnob Tryz.prog.godebug = none := by kernel_rfl
theorem laidOut : laidOutB Tryz.prog = true := by kernel_rfl
set_option linter.unusedVariables false in
theorem lifted (os : Os) (started : os.Started) (H : Type) (enc : TypeId × Value -> H) :
  ReturnsInHanded {} Tryz.checked os 5 .any (Rows.deedGetsSpec.pre6 enc Tryz.prog Tryz.f5 Rows.deedGetsRow.domain false) (Rows.deedGetsSpec.post enc Tryz.prog Tryz.f5 false true false false) := by
 refine returnsInHanded_of_change_sized (C := Tryz.checked) own started (by kernel_rfl) Tryz.func5
  (ChangeSpec.witness6 (enc := enc) (C := Tryz.checked) false ⟨#[], #[.slice none 0 0, .int .i64 0], []⟩ 8 (by kernel_rfl) (by kernel_rfl) (by kernel_rfl) (by kernel_rfl)) ?_
 intro W base args ds gs before hval0 hW hcnd hsz0 _
 have hval : ∀ (j : Nat) t v, Tryz.f5.params[j]? = some t -> args[j]? = some v -> Value.okWide Tryz.prog W .any base t v := hval0
 have hsz : (DataW.weightsEach Tryz.prog (Tryz.f5.params.toList ++ Rows.deedGetsSpec.plain.varTypes Tryz.prog) (ds ++ gs)).all (· <= reachBytes) = true := hsz0
 have hW' := hW
 obtain ⟨p, q, hA0, hV, rfl, hfz, hnd⟩ := hW
 have hA : DataW.TrodAll enc Tryz.prog W 0 (fun _ => true) true Tryz.f5.params.toList args.toList ds p := hA0
 rw [Tryz.params5] at hA hval hsz
 obtain ⟨v0, vs0, d0, ds0, p0, q0, hargs, rfl, rfl, h0, r0⟩ := trodAll_cons hA
 obtain ⟨v1, vs1, d1, ds1, p1, q1, rfl, rfl, rfl, h1, r1⟩ := trodAll_cons r0
 obtain ⟨rfl, rfl, rfl⟩ := trodAll_nil r1
 obtain rfl : args = #[v0, v1] := by cases args; simp_all
 obtain ⟨rfl, rfl⟩ := trodVars_none hV
 obtain ⟨a0, len0, cap0, rfl⟩ := okWide_slice Tryz.underlying29 (hval 0 29 v0 rfl rfl)
 have k0 := h0
 have lt0 : ∀ x ∈ p0, x.block < W.heap.size := by obtain ⟨m, hm⟩ := k0; exact DataW.trod_lt m _ _ _ hm
 obtain ⟨bs0, hl0, hc0, hm0, rd0⟩ : ∃ bs : LU, bs.length = len0 /\ len0 <= cap0 /\ cap0 <= 140737488351232 /\ Rd W a0 bs := by
  obtain ⟨fuel, hf⟩ := h0
  rcases open_ints Tryz.underlying29 Tryz.underlying5 (by kernel_rfl) hf with ⟨hcs, _⟩ | ⟨x, l, c, zs, hcs, _, hl, hm, hz, hx, hcell, hwz⟩
  ·simp [Value.cells] at hcs
   obtain ⟨rfl, rfl, rfl⟩ := hcs
   exact ⟨[], rfl, by omega, by omega, .inl rfl⟩
  ·simp [Value.cells] at hcs
   obtain ⟨rfl, rfl, rfl⟩ := hcs
   have hz' : zs.length = cap0 := by simpa using hz
   have hd : d0 = .slice (lits .u8 (zs.take len0)) (lits .u8 (zs.drop len0)) := congrArg Prod.fst hx
   have hb := sized_slice hsz (j := 0) (t := 29) (elems := lits .u8 (zs.take len0)) (spare := lits .u8 (zs.drop len0)) rfl (by rw [hd]; rfl) Tryz.underlying29
   have hb' : cap0 <= 140737488351232 := by
    rw [show Tryz.prog.bytesOf 5 = 1 from by kernel_rfl] at hb
    simp [lits, reachBytes] at hb; omega
   obtain ⟨bs, e1, e2⟩ := rd_of_ints hl hz' hcell hwz
   exact ⟨bs, e1, hl, hb', e2⟩
 obtain ⟨a1, rfl, rfl, rfl, w1⟩ := open_int Tryz.underlying3 (hval 1 3 v1 rfl rfl) h1
 clear hA0 hval0
 refine (walk_DeedGets W a0 bs0 len0 cap0 hl0 hc0 hm0 rd0 a1 w1).mono fun e W' ⟨he, bel⟩ => ?_
 subst he
 exact ⟨_, rfl, _, _, _, [], _, [], hW', trodAll_mk1 (shut_bool Tryz.underlying4 _), (trodAll_cons_mk (Below.trod laidOut (by kernel_rfl) (of_decide_eq_true (by kernel_rfl)) k0 bel lt0) (trodAll_cons_mk (shut_int Tryz.underlying3 w1) trodAll_mk0)), rfl, bel.frame _, fun h => by cases h⟩
theorem over : Rows.deedGetsRow.holds Tryz.pinned (OpenSpec.ofChange Rows.deedGetsSpec) :=
 OpenClaim.holds_of_wide 5 Tryz.f5 rfl rfl rfl rfl rfl rfl rfl ⟨rfl, rfl, rfl, rfl, rfl⟩ rfl rfl rfl rfl rfl (by kernel_rfl) Tryz.func5 (by kernel_rfl)
  (of_decide_eq_true (by kernel_rfl)) (by unfold Func.isWrapper; first | (rw [if_pos (by decide +kernel)]; kernel_rfl) | (rw [if_neg (by decide +kernel)]; exact ⟨rfl, rfl⟩))
  (fun os started H enc _ => lifted os started H enc)
end deedGets
theorem deedGets_holds : Rows.DeedGetsSaid := deedGets.over
#print axioms deedGets_holds
end Go.Proofs.YtckabmlilbkmbaaGreat
