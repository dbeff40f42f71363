/-
 Filters are read, one behind the other, as the document's own answer reads them, and the error is the same: for all bytes and every number the call of the law answers true, and all arguments read behind it as they read before. No condition.
-/
import Derived.Test.YtoffnfooeojhnaaGreatF4
set_option maxRecDepth 100000
set_option maxHeartbeats 4000000
namespace Go.Proofs.YtoffnfooeojhnaaGreat
open Go.RowKit Go.ChangeShapes Go.WideShapes Go.ChangeAt Go.Sort Spans Op
theorem fgets_out (w : World) (A : Option Addr) (bs : List UInt8) (len cap : Nat) (m : Int) (hn : bs.length = len) (hm : len <= 140737488355328) (rd : Rd w A bs) (hl : 600 < len ∨ m < 0 ∨ 10 < m) :
  Calls Tryz.prog 4 #[.slice A len cap, .int .i64 m] w fun e w' => e = .returned (.bool true) /\ Below w.heap.size w w' := by
 have HN := Lib.hid hn
 clear hn
 go_enter Tryz.func4, Tryz.ntmps4
 go_wp2_with fail
 refine (small_at w).mono ?_
 rintro e w1 ⟨rfl, hb1⟩
 go_wp2_with fail
 refine (on_at A bs len cap HN.out (by omega) w1 (rd.below hb1)).mono ?_
 rintro e w2 ⟨gs, rfl, hgs, hb2, hs⟩
 have hsw : w.heap.size <= gs := Nat.le_trans hb1.size hgs
 have hbw := below_next hb1 (Nat.le_refl _) hb2
 clear hb1 hb2 hgs
 by_cases a1 : 600 < len
 ·have q1 : decide ((600 : Int) < (len : Int)) = true := by simp; omega
  clear hl a1 hs
  go_wp2_with fail
  go_ret
  exact ⟨rfl, hbw⟩
 ·have q1 : decide ((600 : Int) < (len : Int)) = false := by simp; omega
  by_cases a2 : m < 0
  ·have q2 : decide (m < 0) = true := by simpa using a2
   clear hl a1 a2 hs
   go_wp2_with fail
   go_ret
   exact ⟨rfl, hbw⟩
  ·have q2 : decide (m < 0) = false := by simpa using a2
   have q3 : decide (10 < m) = true := by simp; omega
   clear hl a1 a2 hs
   go_wp2_with fail
   go_ret
   exact ⟨rfl, hbw⟩
def Scx (w : World) (g : Nat) (s : Wire.St) : Prop := Sc w g 43 s ∨ (s = ⟨[], 0⟩ /\ ∃ A cap, Blk w g 43 #[.slice A 0 cap, .int .i64 0])
theorem Scx.lt {w : World} {g : Nat} {s : Wire.St} (h : Scx w g s) : g < w.heap.size := by
 rcases h with h | ⟨_, A, cap, hB⟩
 ·exact h.lt
 ·exact hB.lt
theorem Scx.below {w w' : World} {g : Nat} {s : Wire.St} (h : Scx w g s) (hb : Below w.heap.size w w') : Scx w' g s := by
 rcases h with h | ⟨e, A, cap, hB⟩
 ·exact .inl (h.below hb)
 ·exact .inr ⟨e, A, cap, hB.below hb hB.lt⟩
theorem Touch.scx {w w' : World} {gs gx : Nat} {s st : Wire.St} (h : Touch gs w w') (hs : Sc w gs 94 st) (hx : Scx w gx s) (hne : gx ≠ gs) : Scx w' gx s := by
 rcases hx with hx | ⟨e, A, cap, hB⟩
 ·exact .inl (h.sc hs hx hne)
 ·exact .inr ⟨e, A, cap, h.blk hB hne⟩
theorem scx_get (w : World) (g : Nat) (s : Wire.St) (h : Scx w g s) (hfi : s.fine) :
  Calls Tryz.prog 27 #[.pointer (some ⟨g, 0, none⟩)] w fun e w' => ∃ f s' A n c, GetIs s f s' /\ e = .returned (.slice A n c) /\ f.length = n /\ n <= 24 /\ n <= c /\ OwnQ w' w.heap.size (.slice A n c) f /\ Sc w' g 43 s' /\ Touch g w w' := by
 rcases h with h | ⟨rfl, A, cap, hB⟩
 ·exact rfget_at w g s h hfi
 ·exact rfget_nil w g A cap hB
theorem scx_sc {w w' : World} {gs gx : Nat} {s st : Wire.St} (h : Touch gx w w') (hx : Scx w gx st) (hs : Sc w gs 94 s) (hne : gs ≠ gx) : Sc w' gs 94 s := by
 rcases hx with hx | ⟨e, A, cap, hB⟩
 ·exact h.sc hx hs hne
 ·obtain ⟨A2, n2, c2, hB2, h1, h2, h3, hr, ha⟩ := hs
  refine ⟨A2, n2, c2, h.blk hB2 hne, h1, h2, h3, h.rd hr (fun off => ?_), ha⟩
  rcases hr with h0 | ⟨g, of2, hA, hg, hc⟩
  ·exact .inr h0
  ·by_cases hgx : g = gx
   ·subst hgx
    by_cases hn : 0 < s.rest.length
    ·exfalso
     have c0 := hc 0 hn
     by_cases h4 : of2 + 0 = 0
     ·rw [h4, hB.cell 0] at c0; simp at c0
     ·by_cases h5 : of2 + 0 = 1
      ·rw [h5, hB.cell 1] at c0
       simp at c0
      ·have : (#[(.slice A 0 cap : Value), .int .i64 0] : Array Value)[of2 + 0]? = none := Array.getElem?_eq_none (by simp; omega)
       rw [hB.cell, this] at c0; cases c0
    ·exact .inr (List.eq_nil_of_length_eq_zero (by omega))
   ·exact .inl (fun e => hgx (by rw [hA] at e; injection e with e; injection e))
def BothF (w0 w : World) (gs gx : Nat) : Prop := Below w0.heap.size w0 w /\ ∃ st : Wire.St, st.fine /\ Sc w gs 94 st /\ Scx w gx st
theorem fgets_in (w : World) (A : Option Addr) (bs : List UInt8) (len cap : Nat) (m : Nat) (hn : bs.length = len) (hm : len <= 600) (hcap : len <= cap) (hcap2 : cap <= 140737488355328) (rd : Rd w A bs) (hm2 : m <= 10) :
  Calls Tryz.prog 4 #[.slice A len cap, .int .i64 (m : Int)] w fun e w' => e = .returned (.bool true) /\ Below w.heap.size w w' := by
 have HN := Lib.hid hn
 clear hn
 go_enter Tryz.func4, Tryz.ntmps4
 go_wp2_with fail
 refine (small_at w).mono ?_
 rintro e w1 ⟨rfl, hb1⟩
 go_wp2_with fail
 refine (on_at A bs len cap HN.out (by omega) w1 (rd.below hb1)).mono ?_
 rintro e w2 ⟨gs, rfl, hgs, hb2, hs⟩
 have hsw : w.heap.size <= gs := Nat.le_trans hb1.size hgs
 have hbw := below_next hb1 (Nat.le_refl _) hb2
 clear hb1 hb2 hgs
 have q1 : decide ((600 : Int) < (len : Int)) = false := by simp; omega
 have q2 : decide ((m : Int) < 0) = false := by simp
 have q3 : decide (10 < (m : Int)) = false := by simp; omega
 go_wp2_with fail
 have hBx : Blk (w2.alloc (.cells #[.slice A len cap, .int .i64 0] 43)) w2.heap.size 43 #[.slice A len cap, .int .i64 0] := Blk.new w2 _ _
 have hb3 : Below w2.heap.size w2 (w2.alloc (.cells #[.slice A len cap, .int .i64 0] 43)) := (gr1 w2 _).below
 have hxw : w.heap.size <= w2.heap.size := hbw.size
 have hne : gs ≠ w2.heap.size := by have := hs.lt; omega
 have hx0 : Scx (w2.alloc (.cells #[.slice A len cap, .int .i64 0] 43)) w2.heap.size ⟨bs, 0⟩ := by
  have hn := HN.out
  rcases rd with h | ⟨g, off, hA, hg, hc⟩
  ·subst h
   obtain rfl : len = 0 := by rw [<- hn]; rfl
   exact .inr ⟨rfl, A, cap, hBx⟩
  ·refine .inl ⟨A, len, cap, hBx, hn, hcap, hcap2, ?_, fun a ha => ?_⟩
   ·exact Rd.below (Rd.below (.inr ⟨g, off, hA, hg, hc⟩) hbw) hb3
   ·rw [hA] at ha
    injection ha with ha
    subst ha
    show g < w2.heap.size
    omega
 have h0 : BothF w (w2.alloc (.cells #[.slice A len cap, .int .i64 0] 43)) gs w2.heap.size := ⟨below_next hbw (Nat.le_refl _) hb3, ⟨bs, 0⟩, fun h => absurd rfl h, hs.below hb3, hx0⟩
 generalize w2.alloc (.cells #[.slice A len cap, .int .i64 0] 43) = w3 at *
 generalize w2.heap.size = gx at *
 clear q1 q2 q3 hBx hb3 hs hbw hx0
 go_loopw [8] (fun x wr => ∃ q : Nat, q <= m /\ x = .int .i64 (q : Int) /\ BothF w wr gs gx) (fun x _ => m - (intOf x).toNat)
 case atStart => exact ⟨0, by omega, rfl, h0⟩
 case round =>
  clear h0
  obtain ⟨q, hq, rfl, hbr, st, hfi, hs, hx⟩ := hrel
  by_cases hlt : q < m
  ·have w5 : (q : Int) < (m : Int) := by omega
   go_wp2_with fail
   refine (fget_at wr gs st hs).mono ?_
   rintro e w4 ⟨f, s', A3, n3, c3, hG, rfl, hl3, h24, hc3, ho3, hs4, hT4⟩
   have HG := Lib.hid hG
   have HL3 := Lib.hid hl3
   have hb4 := hT4.below hbr hbr.size hsw
   have hx4 := hT4.scx hs hx hne.symm
   have hgx : gx < wr.heap.size := hx.lt
   have O3 := Lib.hid ho3
   clear hs hx hT4 hG hl3 ho3
   go_wp2_with fail
   have hS0 : Below w.heap.size w w4.drew := hb4.drew
   refine wp_region_held_drew (S := fun w' => Below w.heap.size w w') (by kernel_rfl) hS0 (fun _ => ?_)
   refine wq 0 43 (v := ?_) rfl rfl (by kernel_rfl) (fun _ _ _ h => h) (by rfl) ?_ hS0 ?_
   rotate_left
   ·intro w' hSw; skip; go_simp <;> with_reducible rfl
   simp only [Act.put, zu0, zu1, zu2]
   refine wq 1 44 (v := ?_) rfl rfl (by kernel_rfl) (fun _ _ _ h => h) (by rfl) ?_ hS0 ?_
   rotate_left
   ·intro w' hSw; skip; go_simp <;> with_reducible rfl
   simp only [Act.put, zu0, zu1, zu2]
   replace hs4 := hs4.drew
   have hx5 : Scx w4.drew gx st := hx4.below (Below.refl _ _).drew
   have O4 : Hid (OwnQ w4.drew wr.heap.size (.slice A3 n3 c3) f) := OwnK.below O3.out (Below.refl _ _).drew
   clear hb4 hx4 O3
   generalize w4.drew = wd at *
   refine wpAnyH_one (i := 2) (by kernel_rfl) rfl (by rfl) (fun Kc hK1 => ?_)
   go_simp
   with_reducible refine (scx_get wd gx st hx5 hfi).mono ?_
   rintro e w5 ⟨f2, s2, A4, n4, c4, hG2, rfl, hl4, h24b, hc4, ho4, hx6, hT5⟩
   obtain ⟨hff, hss⟩ := hG2.one HG.out
   subst hff
   subst hss
   have hb5 := hT5.below hS0 hS0.size hxw
   have hs5 : Sc w5 gs 94 s2 := scx_sc hT5 hx5 hs4 hne
   have O5 := Lib.hid (OwnK.touch O4.out hT5 hgx)
   have O6 := Lib.hid ho4
   have HL4 := Lib.hid hl4
   have hfi2 := get_fine hG2 hfi
   clear hs4 hx5 hT5 O4 hG2 hl4 ho4
   go_wp2_with fail
   refine hK1.out _ _ hb5 ?_
   clear hK1
   refine wpAnyH_one (i := 3) (by kernel_rfl) rfl (by rfl) (fun Kc hK2 => ?_)
   have hl3 := HL3.out
   have hl4 := HL4.out
   have hdd : decide (f2 = f2) = true := decide_eq_true rfl
   have hr5 := rdk_own' O5.out
   have hr6 := rdk_own' O6.out
   go_simp
   with_reducible refine (samePs_at A3 f2 n3 c3 hl3 (by omega) A4 f2 n4 c4 hl4 (by omega) w5 hr5 hr6 true hdd).mono ?_
   rintro e w6 ⟨rfl, hg6⟩
   have hb6 := hg6.below
   replace hs5 := hs5.below hb6
   replace hx6 := hx6.below hb6
   replace hb5 := below_next hb5 (by have := hb5.size; omega) hb6
   clear hb6 hg6 hr5 hr6 hdd
   go_wp2_with fail
   refine hK2.out _ _ hb5 ?_
   clear hK2
   refine wq 4 47 (v := ?_) rfl rfl (by kernel_rfl) (fun _ _ _ h => h) (by rfl) ?_ hb5 ?_
   rotate_left
   ·intro w' hSw; skip; go_simp <;> with_reducible rfl
   simp only [Act.put, zu0, zu1, zu2]
   refine wq 5 48 (v := ?_) rfl rfl (by kernel_rfl) (fun _ _ _ h => h) (by rfl) ?_ hb5 ?_
   rotate_left
   ·intro w' hSw; skip; go_simp <;> with_reducible rfl
   simp only [Act.put, zu0, zu1, zu2]
   have hx7 := hx6
   obtain ⟨A', n', cap', hG, hl', hG'⟩ := hx6
   obtain ⟨z, hz⟩ : ∃ z, s2.err = z := ⟨_, rfl⟩
   rw [hz] at hG
   have HZ := Lib.hid hz
   have HL' := Lib.hid hl'
   have hgl : gx < w6.heap.size := hG.lt
   clear hz hl' hG'
   have hS1 : Below w.heap.size w w6 /\ w6.cell? ⟨gx, 0, none⟩ = some (.slice A' n' cap') /\ w6.cell? ⟨gx, 1, none⟩ = some (.int .i64 z) := ⟨hb5, hG.cell 0, hG.cell 1⟩
   refine wpAnyH_more (S' := fun w' => Below w.heap.size w w' /\ w'.cell? ⟨gx, 0, none⟩ = some (.slice A' n' cap') /\ w'.cell? ⟨gx, 1, none⟩ = some (.int .i64 z)) (fun w' h => h.1) _ _ _ _ ?_
   refine wq 6 49 (v := ?_) rfl rfl (by kernel_rfl) (fun _ _ _ h => h) (by rfl) ?_ hS1 ?_
   rotate_left
   ·intro w' hSw; skip; go_simp <;> with_reducible rfl
   simp only [Act.put, zu0, zu1, zu2]
   refine wq 8 51 (v := ?_) rfl rfl (by kernel_rfl) (fun _ _ _ h => h) (by rfl) ?_ hS1 ?_
   rotate_left
   ·intro w' hSw; skip; go_simp <;> with_reducible rfl
   simp only [Act.put, zu0, zu1, zu2]
   refine wq 9 52 (v := ?_) rfl rfl (by kernel_rfl) (fun _ _ _ h => h) (by rfl) ?_ hS1 ?_
   rotate_left
   ·intro w' hSw; skip; go_simp <;> with_reducible rfl
   simp only [Act.put, zu0, zu1, zu2]
   refine wq 10 53 (v := ?_) rfl rfl (by kernel_rfl) (fun _ _ _ h => h) (by rfl) ?_ hS1 ?_
   rotate_left
   ·intro w' hSw; skip; go_simp <;> with_reducible rfl
   simp only [Act.put, zu0, zu1, zu2]
   refine wq 11 54 (v := ?_) rfl rfl (by kernel_rfl) (fun _ _ _ h => h) (by rfl) ?_ hS1 ?_
   rotate_left
   ·intro w' hSw; skip; go_simp <;> with_reducible rfl
   simp only [Act.put, zu0, zu1, zu2]
   refine wq 12 55 (v := ?_) rfl rfl (by kernel_rfl) (fun _ _ _ h => h) (by rfl) ?_ hS1 ?_
   rotate_left
   ·intro w' hSw; skip; go_simp <;> with_reducible rfl
   simp only [Act.put, zu0, zu1, zu2]
   refine wpAnyH_one (i := 7) (by kernel_rfl) rfl (by rfl) (fun Kc hK3 => ?_)
   go_simp
   with_reducible refine (left_at w6 gs s2 hs5 n' HL'.out).mono ?_
   rintro e w7 ⟨rfl, rfl⟩
   go_wp2_with fail
   refine hK3.out _ _ hS1 ?_
   clear hK3
   refine wq 13 56 (v := ?_) rfl rfl (by kernel_rfl) (fun _ _ _ h => h) (by rfl) ?_ hS1 ?_
   rotate_left
   ·intro w' hSw; skip; go_simp <;> with_reducible rfl
   simp only [Act.put, zu0, zu1, zu2]
   refine wq 14 57 (v := ?_) rfl rfl (by kernel_rfl) (fun _ _ _ h => h) (by rfl) ?_ hS1 ?_
   rotate_left
   ·intro w' hSw; skip; go_simp <;> with_reducible rfl
   simp only [Act.put, zu0, zu1, zu2]
   refine wq 15 58 (v := ?_) rfl rfl (by kernel_rfl) (fun _ _ _ h => h) (by rfl) ?_ hS1 ?_
   rotate_left
   ·intro w' hSw; skip; go_simp <;> with_reducible rfl
   simp only [Act.put, zu0, zu1, zu2]
   refine wq 16 59 (v := ?_) rfl rfl (by kernel_rfl) (fun _ _ _ h => h) (by rfl) ?_ hS1 ?_
   rotate_left
   ·intro w' hSw; skip; go_simp <;> with_reducible rfl
   simp only [Act.put, zu0, zu1, zu2]
   refine wq 18 61 (v := ?_) rfl rfl (by kernel_rfl) (fun _ _ _ h => h) (by rfl) ?_ hS1 ?_
   rotate_left
   ·intro w' hSw; skip; go_simp <;> with_reducible rfl
   simp only [Act.put, zu0, zu1, zu2]
   refine wq 19 62 (v := ?_) rfl rfl (by kernel_rfl) (fun _ _ _ h => h) (by rfl) ?_ hS1 ?_
   rotate_left
   ·intro w' hSw; skip; go_simp <;> with_reducible rfl
   simp only [Act.put, zu0, zu1, zu2]
   refine wq 20 63 (v := ?_) rfl rfl (by kernel_rfl) (fun _ _ _ h => h) (by rfl) ?_ hS1 ?_
   rotate_left
   ·intro w' hSw; skip; go_simp <;> with_reducible rfl
   simp only [Act.put, zu0, zu1, zu2]
   refine wq 21 64 (v := ?_) rfl rfl (by kernel_rfl) (fun _ _ _ h => h) (by rfl) ?_ hS1 ?_
   rotate_left
   ·intro w' hSw; skip; go_simp <;> with_reducible rfl
   simp only [Act.put, zu0, zu1, zu2]
   refine wpAnyH_one (i := 17) (by kernel_rfl) rfl (by rfl) (fun Kc hK4 => ?_)
   go_simp
   with_reducible refine (err_at w6 gs s2 hs5 z HZ.out).mono ?_
   rintro e w7 ⟨rfl, rfl⟩
   go_wp2_with fail
   refine hK4.out _ _ hS1 ?_
   clear hK4
   refine wq 22 65 (v := ?_) rfl rfl (by kernel_rfl) (fun _ _ _ h => h) (by rfl) ?_ hS1 ?_
   rotate_left
   ·intro w' hSw; skip; go_simp <;> with_reducible rfl
   simp only [Act.put, zu0, zu1, zu2]
   refine wq 23 66 (v := ?_) rfl rfl (by kernel_rfl) (fun _ _ _ h => h) (by rfl) ?_ hS1 ?_
   rotate_left
   ·intro w' hSw; skip; go_simp <;> with_reducible rfl
   simp only [Act.put, zu0, zu1, zu2]
   refine wpAnyH_done (by kernel_rfl) ?_ _
   clear hS1 hG
   go_wp2_with fail
   go_roundw
   case rel => exact ⟨q + 1, by omega, by go_num, hb5, s2, hfi2, hs5, .inl hx7⟩
   case measure => simp [intOf]; omega
  ·obtain rfl : q = m := by omega
   go_wp2_with fail
   go_ret
   exact ⟨rfl, hbr⟩
theorem walk_FilterGets (w : World) (A : Option Addr) (bs : List UInt8) (len cap : Nat) (hl : bs.length = len) (hc : len <= cap) (hm : cap <= 140737488351232) (rd : Rd w A bs) (m : Int) (_ : (Lit.int .i64 m).wf = true) :
  Calls Tryz.prog 4 #[.slice A len cap, .int .i64 m] w fun e w' => e = .returned (.bool true) /\ Below w.heap.size w w' := by
 by_cases hout : 600 < len ∨ m < 0 ∨ 10 < m
 ·exact fgets_out w A bs len cap m hl (by omega) rd hout
 ·obtain ⟨k, rfl⟩ := Int.eq_ofNat_of_zero_le (show 0 <= m by omega)
  exact fgets_in w A bs len cap k hl (by omega) hc (by omega) rd (by omega)
/-! ### The row's step. -/
namespace filterGets
theorem own : ownKnob Tryz.prog.godebug = none := by kernel_rfl
theorem laidOut : laidOutB Tryz.prog = true := by kernel_rfl
set_option linter.unusedVariables false in
theorem lifted (os : Os) (started : os.Started) (H : Type) (enc : TypeId × Value -> H) :
  ReturnsInHanded {} Tryz.checked os 4 .any (Rows.filterGetsSpec.pre6 enc Tryz.prog Tryz.f4 Rows.filterGetsRow.domain false) (Rows.filterGetsSpec.post enc Tryz.prog Tryz.f4 false true false false) := by
 refine returnsInHanded_of_change_sized (C := Tryz.checked) own started (by kernel_rfl) Tryz.func4
  (ChangeSpec.witness6 (enc := enc) (C := Tryz.checked) false ⟨#[], #[.slice none 0 0, .int .i64 0], []⟩ 8 (by kernel_rfl) (by kernel_rfl) (by kernel_rfl) (by kernel_rfl)) ?_
 intro W base args ds gs before hval0 hW hcnd hsz0 _
 have hval : ∀ (j : Nat) t v, Tryz.f4.params[j]? = some t -> args[j]? = some v -> Value.okWide Tryz.prog W .any base t v := hval0
 have hsz : (DataW.weightsEach Tryz.prog (Tryz.f4.params.toList ++ Rows.filterGetsSpec.plain.varTypes Tryz.prog) (ds ++ gs)).all (· <= reachBytes) = true := hsz0
 have hW' := hW
 obtain ⟨p, q, hA0, hV, rfl, hfz, hnd⟩ := hW
 have hA : DataW.TrodAll enc Tryz.prog W 0 (fun _ => true) true Tryz.f4.params.toList args.toList ds p := hA0
 rw [Tryz.params4] at hA hval hsz
 obtain ⟨v0, vs0, d0, ds0, p0, q0, hargs, rfl, rfl, h0, r0⟩ := trodAll_cons hA
 obtain ⟨v1, vs1, d1, ds1, p1, q1, rfl, rfl, rfl, h1, r1⟩ := trodAll_cons r0
 obtain ⟨rfl, rfl, rfl⟩ := trodAll_nil r1
 obtain rfl : args = #[v0, v1] := by cases args; simp_all
 obtain ⟨rfl, rfl⟩ := trodVars_none hV
 obtain ⟨a0, len0, cap0, rfl⟩ := okWide_slice Tryz.underlying24 (hval 0 24 v0 rfl rfl)
 have k0 := h0
 have lt0 : ∀ x ∈ p0, x.block < W.heap.size := by obtain ⟨m, hm⟩ := k0; exact DataW.trod_lt m _ _ _ hm
 obtain ⟨bs0, hl0, hc0, hm0, rd0⟩ : ∃ bs : List UInt8, bs.length = len0 /\ len0 <= cap0 /\ cap0 <= 140737488351232 /\ Rd W a0 bs := by
  obtain ⟨fuel, hf⟩ := h0
  rcases open_ints Tryz.underlying24 Tryz.underlying5 (by kernel_rfl) hf with ⟨hcs, _⟩ | ⟨x, l, c, zs, hcs, _, hl, hm, hz, hx, hcell, hwz⟩
  ·simp [Value.cells] at hcs
   obtain ⟨rfl, rfl, rfl⟩ := hcs
   exact ⟨[], rfl, by omega, by omega, .inl rfl⟩
  ·simp [Value.cells] at hcs
   obtain ⟨rfl, rfl, rfl⟩ := hcs
   have hz' : zs.length = cap0 := by simpa using hz
   have hd : d0 = .slice (lits .u8 (zs.take len0)) (lits .u8 (zs.drop len0)) := congrArg Prod.fst hx
   have hb := sized_slice hsz (j := 0) (t := 24) (elems := lits .u8 (zs.take len0)) (spare := lits .u8 (zs.drop len0)) rfl (by rw [hd]; rfl) Tryz.underlying24
   have hb' : cap0 <= 140737488351232 := by
    rw [show Tryz.prog.bytesOf 5 = 1 from by kernel_rfl] at hb
    simp [lits, reachBytes] at hb; omega
   obtain ⟨bs, e1, e2⟩ := rd_of_ints hl hz' hcell hwz
   exact ⟨bs, e1, hl, hb', e2⟩
 obtain ⟨a1, rfl, rfl, rfl, w1⟩ := open_int Tryz.underlying3 (hval 1 3 v1 rfl rfl) h1
 clear hA0 hval0
 refine (walk_FilterGets W a0 bs0 len0 cap0 hl0 hc0 hm0 rd0 a1 w1).mono fun e W' ⟨he, bel⟩ => ?_
 subst he
 exact ⟨_, rfl, _, _, _, [], _, [], hW', trodAll_mk1 (shut_bool Tryz.underlying4 _), (trodAll_cons_mk (Below.trod laidOut (by kernel_rfl) (of_decide_eq_true (by kernel_rfl)) k0 bel lt0) (trodAll_cons_mk (shut_int Tryz.underlying3 w1) trodAll_mk0)), rfl, bel.frame _, fun h => by cases h⟩
theorem over : Rows.filterGetsRow.holds Tryz.pinned (OpenSpec.ofChange Rows.filterGetsSpec) :=
 OpenClaim.holds_of_wide 4 Tryz.f4 rfl rfl rfl rfl rfl rfl rfl ⟨rfl, rfl, rfl, rfl, rfl⟩ rfl rfl rfl rfl rfl (by kernel_rfl) Tryz.func4 (by kernel_rfl)
  (of_decide_eq_true (by kernel_rfl)) (by unfold Func.isWrapper; first | (rw [if_pos (by decide +kernel)]; kernel_rfl) | (rw [if_neg (by decide +kernel)]; exact ⟨rfl, rfl⟩))
  (fun os started H enc _ => lifted os started H enc)
end filterGets
theorem filterGets_holds : Rows.FilterGetsSaid := filterGets.over
#print axioms filterGets_holds
end Go.Proofs.YtoffnfooeojhnaaGreat
