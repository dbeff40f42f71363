/- Contracts of the program and of the document (SRef, RRise, RInt, RTxt, RNum, RUp), each used further on. -/
import Derived.Test.YtoffnfooeojhnaaM7
namespace Go.Proofs.Ytoffnfooeojhnaa
open Go.RowKit Spans Op
set_option maxRecDepth 100000 in
set_option maxHeartbeats 1000000 in
theorem refHas_at (A : Option Addr) (es : List Val) (n cap : Nat) (hn : es.length = n) (hm : n <= 100000) (yk yi : Int) (yt : List UInt8) (w : World) (hr : RdW w A es) (b : Bool) (hb : decide ((⟨yk, yi, yt⟩ : Val) ∈ es) = b) :
  Calls Try.prog 34 #[.slice A n cap, .agg #[.int .i64 yk, .int .i64 yi, .string ⟨yt.toArray⟩]] w fun e w' => e = .returned (.bool b) /\ Grown w w' := by
 subst hb
 have HN := Lib.hid hn
 have hB := Blk.new w 24 #[.int .i64 yk, .int .i64 yi, .string ⟨yt.toArray⟩]
 have HG0 := Lib.hid (gr1 w (.cells #[.int .i64 yk, .int .i64 yi, .string ⟨yt.toArray⟩] 24))
 have hr1 := hr.below HG0.out.below
 clear hn hr
 go_enter Try.func34, Try.ntmps34
 go_wp2_with fail
 generalize w.heap.size = g0 at *
 generalize w.alloc (.cells #[.int .i64 yk, .int .i64 yi, .string ⟨yt.toArray⟩] 24) = w1 at *
 go_loopg [5] n (fun gg s8 wr => ∃ k : Nat, k <= n /\ n - k <= gg /\ s8 = .int .i64 (k : Int) /\ Hid (Grown w1 wr) /\ Hid ((⟨yk, yi, yt⟩ : Val) ∉ es.take k))
 case atStart => exact ⟨0, Nat.zero_le _, by omega, rfl, Grown.refl w1, by show _ ∉ _; simp⟩
 case round =>
  obtain ⟨k, hk, hgg, rfl, HG, HA⟩ := hrel
  by_cases hlt : k < n
  ·have hk' : k < es.length := by rw [HN.out]; exact hlt
   obtain ⟨g, off, rfl, hg, c0, c1, c2⟩ := RdW.at3 (hr1.below HG.out.below) hk'
   obtain ⟨b0, b1, b2, _⟩ := blk3 (Blk.below hB HG.out.below hB.lt)
   obtain ⟨x, hx⟩ : ∃ x, es[k] = x := ⟨_, rfl⟩
   have HX := Lib.hid hx
   rw [hx] at c0 c1 c2
   clear hx hr1 hB
   obtain ⟨xk, xi, xt⟩ := x
   have w5 : (k : Int) < (n : Int) := by omega
   go_wp2_with fail
   refine wp_region_held_drew (S := fun w' => w' = wr.drew) (by kernel_rfl) rfl (fun _ => ?_)
   refine wpAnyH_yes (i := 0) (d := 12) (v := ?_) rfl rfl (by kernel_rfl) (by kernel_rfl) (by kernel_rfl) (fun _ _ _ h => h) (by rfl) ?_ rfl ?_
   rotate_left
   ·intro w' hSw; subst hSw; go_simp <;> with_reducible rfl
   simp only [Act.put, List.setIfInBounds_toArray, List.set_cons_zero, List.set_cons_succ]
   refine wpAnyH_yes (i := 1) (d := 13) (v := ?_) rfl rfl (by kernel_rfl) (by kernel_rfl) (by kernel_rfl) (fun _ _ _ h => h) (by rfl) ?_ rfl ?_
   rotate_left
   ·intro w' hSw; subst hSw; go_simp <;> with_reducible rfl
   simp only [Act.put, List.setIfInBounds_toArray, List.set_cons_zero, List.set_cons_succ]
   refine wpAnyH_yes (i := 2) (d := 14) (v := ?_) rfl rfl (by kernel_rfl) (by kernel_rfl) (by kernel_rfl) (fun _ _ _ h => h) (by rfl) ?_ rfl ?_
   rotate_left
   ·intro w' hSw; subst hSw; go_simp <;> with_reducible rfl
   simp only [Act.put, List.setIfInBounds_toArray, List.set_cons_zero, List.set_cons_succ]
   refine wpAnyH_yes (i := 3) (d := 15) (v := ?_) rfl rfl (by kernel_rfl) (by kernel_rfl) (by kernel_rfl) (fun _ _ _ h => h) (by rfl) ?_ rfl ?_
   rotate_left
   ·intro w' hSw; subst hSw; go_simp <;> with_reducible rfl
   simp only [Act.put, List.setIfInBounds_toArray, List.set_cons_zero, List.set_cons_succ]
   refine wpAnyH_yes (i := 4) (d := 16) (v := ?_) rfl rfl (by kernel_rfl) (by kernel_rfl) (by kernel_rfl) (fun _ _ _ h => h) (by rfl) ?_ rfl ?_
   rotate_left
   ·intro w' hSw; subst hSw; go_simp <;> with_reducible rfl
   simp only [Act.put, List.setIfInBounds_toArray, List.set_cons_zero, List.set_cons_succ]
   refine wpAnyH_yes (i := 5) (d := 17) (v := .bool (decide ((⟨xk, xi, xt⟩ : Val) = (⟨yk, yi, yt⟩ : Val)))) rfl rfl (by kernel_rfl) (by kernel_rfl) (by kernel_rfl) (fun _ _ _ h => h) (by rfl) ?_ rfl ?_
   ·intro w' hSw; subst hSw; go_simp
    by_cases a1 : xk = yk <;> by_cases a2 : xi = yi <;> by_cases a3 : xt = yt <;> simp [a1, a2, a3]
   simp only [Act.put, List.setIfInBounds_toArray, List.set_cons_zero, List.set_cons_succ]
   refine wpAnyH_done (by kernel_rfl) ?_ _
   clear c0 c1 c2 b0 b1 b2 w5
   by_cases hxy : (⟨xk, xi, xt⟩ : Val) = (⟨yk, yi, yt⟩ : Val)
   ·have hd : decide ((⟨xk, xi, xt⟩ : Val) = (⟨yk, yi, yt⟩ : Val)) = true := decide_eq_true hxy
    rw [hd]
    have HM : Hid ((⟨yk, yi, yt⟩ : Val) ∈ es) := by show _ ∈ es; rw [<- hxy, <- HX.out]; exact List.getElem_mem hk'
    clear hd hxy HX
    go_wp2_with fail
    go_ret
    exact ⟨ret_b (decide_eq_true HM.out).symm, HG0.out.trans HG.out.drew⟩
   ·have hd : decide ((⟨xk, xi, xt⟩ : Val) = (⟨yk, yi, yt⟩ : Val)) = false := decide_eq_false hxy
    rw [hd]
    have HQ : Hid ((⟨yk, yi, yt⟩ : Val) ∉ es.take (k + 1)) := by
     show _ ∉ _
     rw [takeS hk', HX.out]
     intro hv
     rcases List.mem_append.1 hv with hv | hv
     ·exact HA.out hv
     ·simp only [List.mem_singleton] at hv; exact hxy hv.symm
    clear hd hxy HX
    go_wp2_with fail
    go_roundg (n - (k + 1))
    case measure => omega
    case rel => exact ⟨k + 1, by omega, Nat.le_refl _, by go_num, HG.out.drew, HQ⟩
  ·have hkn : Hid (k = n) := by show k = n; omega
   go_wp2_with fail
   go_ret
   refine ⟨ret_b (decide_eq_false fun h => ?_).symm, HG0.out.trans HG.out⟩
   have := HA.out
   rw [hkn.out, List.take_of_length_le (by rw [HN.out]; exact Nat.le_refl _)] at this
   exact this h
end Go.Proofs.Ytoffnfooeojhnaa
namespace Go.Proofs.Ytoffnfooeojhnaa
open Go.RowKit Go.Sort Spans Op
theorem textG_at (a b : List UInt8) (hl : a.length <= 9223372036854775807) (hl2 : b.length <= 9223372036854775807) (w : World) :
  Calls Try.prog 27 #[.string ⟨a.toArray⟩, .string ⟨b.toArray⟩] w fun e w' => e = .returned (.int .i64 (Vals.cmpT a b)) /\ Grown w w' :=
 (refCmpText_dn a b hl hl2 w).mono fun _ _ ⟨h, n, k⟩ => ⟨h, n, #[], by rw [grow_empty]; exact k⟩
set_option maxRecDepth 100000 in
theorem refCompare_gr (k i : Int) (t : List UInt8) (k' i' : Int) (t' : List UInt8) (hl : t.length <= 9223372036854775807) (hl2 : t'.length <= 9223372036854775807) (w : World) :
  Calls Try.prog 69 #[.agg #[.int .i64 k, .int .i64 i, .string ⟨t.toArray⟩], .agg #[.int .i64 k', .int .i64 i', .string ⟨t'.toArray⟩]] w fun e w' => e = .returned (.int .i64 (Vals.cmp k i t k' i' t')) /\ Grown w w' := by
 have hb2 : Grown w ((w.alloc (.cells #[.int .i64 k, .int .i64 i, .string ⟨t.toArray⟩] 24)).alloc (.cells #[.int .i64 k', .int .i64 i', .string ⟨t'.toArray⟩] 24)) := gr2 _ _ _
 rcases Int.lt_trichotomy k k' with h | rfl | h
 ·have HC := Lib.hid (cmp_lt1 k i t k' i' t' h)
  go_enter Try.func69, Try.ntmps69
  go_wp2_with fail
  go_ret
  exact ⟨ret_int HC.out.symm, hb2⟩
 ·rcases Int.lt_trichotomy i i' with h | rfl | h
  ·have HC := Lib.hid (cmp_lt2 k i t i' t' h)
   go_enter Try.func69, Try.ntmps69
   go_wp2_with fail
   go_ret
   exact ⟨ret_int HC.out.symm, hb2⟩
  ·have HC := Lib.hid (cmp_eq2 k i t t')
   go_enter Try.func69, Try.ntmps69
   go_wp2_with fail
   refine (textG_at t t' hl hl2 _).mono ?_
   rintro e w1 ⟨rfl, hb1⟩
   go_wp2_with fail
   go_ret
   exact ⟨ret_int HC.out.symm, hb2.trans hb1⟩
  ·have HC := Lib.hid (cmp_gt2 k i t i' t' h)
   have h2 : ¬ i < i' := by omega
   have h3 : decide (i < i') = false := by simpa using h2
   go_enter Try.func69, Try.ntmps69
   go_wp2_with fail
   go_ret
   exact ⟨ret_int HC.out.symm, hb2⟩
 ·have HC := Lib.hid (cmp_gt1 k i t k' i' t' h)
  have h2 : ¬ k < k' := by omega
  have h3 : decide (k < k') = false := by simpa using h2
  have h4 : (k == k') = false := by simp; omega
  go_enter Try.func69, Try.ntmps69
  go_wp2_with fail
  go_ret
  exact ⟨ret_int HC.out.symm, hb2⟩
theorem cell_gr {w : World} {p : Addr} {v : Value} (hp : p.block < w.heap.size) (h : w.cell? p = some v) (n : Nat) (os : Array Obj) : (grow (w.drewN n) os).cell? p = some v := ((((Grown.refl w).more n os).below.cell (p := p) hp).trans h)
def cmpV (a b : Val) : Int := Vals.cmp a.k a.i a.t b.k b.i b.t
theorem cmpV_zero {a b : Val} : cmpV a b = 0 ↔ a = b := by
 unfold cmpV
 rw [Vals.cmp_zero]
 constructor
 ·rintro ⟨h1, h2, h3⟩; exact Val.ext_ h1 h2 h3
 ·rintro rfl; exact ⟨rfl, rfl, rfl⟩
theorem cmpV_neg (a b : Val) : cmpV b a = - cmpV a b := Vals.cmp_neg _ _ _ _ _ _
theorem cmpV_trans {a b c : Val} (h1 : cmpV a b < 0) (h2 : cmpV b c < 0) : cmpV a c < 0 := by
 have h3 : cmpV a c <= 0 := Vals.cmp_trans _ _ _ _ _ _ _ _ _ (Int.le_of_lt h1) (Int.le_of_lt h2)
 have h4 : cmpV a c ≠ 0 := fun h => by
  rw [cmpV_zero] at h
  subst h
  have := cmpV_neg a b
  omega
 omega
/-- A value put into its place. -/
theorem rise_insert {out : List Val} {v : Val} {k : Nat} (h : RiseV out) (hk : k <= out.length) (h1 : ∀ j (hj : j < out.length), j < k -> cmpV out[j] v < 0) (h2 : ∀ (hj : k < out.length), cmpV v out[k] < 0) : RiseV (out.take k ++ v :: out.drop k) := by
 have hp := List.pairwise_iff_getElem.1 h
 unfold RiseV at *
 rw [List.pairwise_append]
 refine ⟨h.sublist (List.take_sublist _ _), ?_, ?_⟩
 ·rw [List.pairwise_cons]
  refine ⟨fun a ha => ?_, h.sublist (List.drop_sublist _ _)⟩
  obtain ⟨m, hm, rfl⟩ := List.getElem_of_mem ha
  rw [List.length_drop] at hm
  rw [List.getElem_drop]
  have h0 := h2 (by omega)
  rcases Nat.eq_zero_or_pos m with e | e
  ·subst e; exact h0
  ·exact cmpV_trans h0 (hp k (k + m) (by omega) (by omega) (by omega))
 ·intro a ha b hb
  obtain ⟨m, hm, rfl⟩ := List.getElem_of_mem ha
  rw [List.length_take] at hm
  rw [List.getElem_take]
  have h0 := h1 m (by omega) (by omega)
  rcases List.mem_cons.1 hb with rfl | hb
  ·exact h0
  ·obtain ⟨q, hq, rfl⟩ := List.getElem_of_mem hb
   rw [List.length_drop] at hq
   rw [List.getElem_drop]
   exact hp m (k + q) (by omega) (by omega) (by omega)
def Risen (l out : List Val) : Prop := RiseV out /\ ∀ v, v ∈ out ↔ v ∈ l
set_option maxRecDepth 100000 in
set_option maxHeartbeats 4000000 in
theorem rise_at (A : Option Addr) (l : List Val) (n c : Nat) (hn : l.length = n) (hm : n <= 1000) (hl : ∀ v ∈ l, v.t.length <= 1000) (w : World) (hr : RdW w A l) :
  Calls Try.prog 53 #[.slice A n c] w fun e w' => ∃ out B m d, e = .returned (.slice B m d) /\ Risen l out /\ out.length = m /\ m <= n /\ m <= d /\ OwnW w' w.heap.size (.slice B m d) out /\ Below w.heap.size w w' := by
 have HN := Lib.hid hn
 have HLL := Lib.hid hl
 have HR := Lib.hid hr
 clear hn hl hr
 go_enter Try.func53, Try.ntmps53
 go_wp2_with fail
 go_loopg [3, 4] n (fun gg s3 s4 wr => ∃ (i : Nat) (out : List Val) (B : Option Addr) (m d : Nat), i <= n /\ n - i <= gg /\ s4 = .int .i64 (i : Int) /\ s3 = .slice B m d /\ m <= i /\ m <= d /\ Hid (Risen (l.take i) out) /\ Hid (out.length = m) /\ Hid (OwnW wr w.heap.size (.slice B m d) out) /\ Hid (Below w.heap.size w wr))
 case atStart => exact ⟨0, [], none, 0, 0, Nat.zero_le _, by omega, rfl, rfl, Nat.le_refl _, Nat.le_refl _, ⟨List.Pairwise.nil, by simp⟩, rfl, OwnK.none_ _ _, Below.refl _ _⟩
 case round =>
  obtain ⟨i, out, B, m, d, hi, hgg, rfl, rfl, hmi, hmd, HRS, HM, HO, HB⟩ := hrel
  by_cases hlt : i < n
  ·have hi' : i < l.length := by rw [HN.out]; exact hlt
   obtain ⟨g, off, rfl, hg, c0, c1, c2⟩ := RdW.at3 (RdK.below HR.out HB.out) hi'
   have hxl := HLL.out _ (List.getElem_mem hi')
   obtain ⟨x, hx⟩ : ∃ x, l[i] = x := ⟨_, rfl⟩
   have HX := Lib.hid hx
   rw [hx] at c0 c1 c2 hxl
   obtain ⟨xk, xi, xt⟩ := x
   dsimp only at c0 c1 c2 hxl
   have hi1 : (i : Int) < (n : Int) := by omega
   have HC : Hid (wr.cell? ⟨g, off + i * 3, none⟩ = some (.int .i64 xk) /\ wr.cell? ⟨g, off + i * 3 + 1, none⟩ = some (.int .i64 xi) /\ wr.cell? ⟨g, off + i * 3 + 2, none⟩ = some (.string ⟨xt.toArray⟩)) := ⟨c0, c1, c2⟩
   have HG0 : Hid (g < wr.heap.size) := hg
   obtain ⟨_, _, e1, _, hrd⟩ := OwnK.rd HO.out
   injection e1 with e1 e2 e3
   subst e1
   have HRO := Lib.hid hrd
   have HTL : Hid (∀ v ∈ out, v.t.length <= 1000) := fun v hv => HLL.out v (List.mem_of_mem_take ((HRS.out.2 v).1 hv))
   clear hx c0 c1 c2 hrd e2 e3 hg
   obtain ⟨wo, rfl⟩ : ∃ wo : World, wo = wr := ⟨_, rfl⟩
   go_wp2_with fail
   go_loopg [5] m (fun g2 kv wy => ∃ k : Nat, k + g2 = m /\ kv = .int .i64 (k : Int) /\ Hid (Grown wo wy) /\ Hid (∀ j (hj : j < out.length), j < k -> cmpV out[j] ⟨xk, xi, xt⟩ < 0))
   case atStart => exact ⟨0, by omega, rfl, Grown.refl _, fun j hj h => absurd h (by omega)⟩
   case round =>
    obtain ⟨k, hkg, rfl, HG, HL⟩ := hrel
    have hg1 : g < wr.heap.size := Nat.lt_of_lt_of_le HG0.out HG.out.below.size
    have hx0 := (HG.out.below.cell (p := ⟨g, off + i * 3, none⟩) HG0.out).trans HC.out.1
    have hx1 := (HG.out.below.cell (p := ⟨g, off + i * 3 + 1, none⟩) HG0.out).trans HC.out.2.1
    have hx2 := (HG.out.below.cell (p := ⟨g, off + i * 3 + 2, none⟩) HG0.out).trans HC.out.2.2
    have z0 := fun n os => cell_gr (w := wr) (p := ⟨g, off + i * 3, none⟩) hg1 hx0 n os
    have z1 := fun n os => cell_gr (w := wr) (p := ⟨g, off + i * 3 + 1, none⟩) hg1 hx1 n os
    have z2 := fun n os => cell_gr (w := wr) (p := ⟨g, off + i * 3 + 2, none⟩) hg1 hx2 n os
    have hro := RdK.below HRO.out HG.out.below
    have HB1 := Lib.hid (below_next HB.out (Nat.le_refl _) HG.out.below)
    have HO1 := Lib.hid (OwnK.below HO.out HG.out.below)
    clear hx0 hx1 hx2
    cases gk with
    | zero =>
     obtain rfl : k = m := by omega
     go_wp2_with fail
     (refine hq_region mixedT (by kernel_rfl) ?_; (repeat (refine hq_step (fun K hK => ?_); go_simp; first | (refine hK _ ?_; clear hK K) | (apply Exists.intro; refine ⟨fun _ => ?_, hK _ ?_⟩; (fail); clear hK K))); refine hq_nil ?_; intro _ hw'; obtain ⟨⟨nq, osq⟩, hw''⟩ := hw'; subst hw'')
     have hgr1 : Grown wr (grow (wr.drewN nq) osq) := (Grown.refl _).more _ _
     clear z0 z1 z2
     have z0 := cell_gr (w := wr) (p := ⟨g, off + i * 3, none⟩) hg1 ((HG.out.below.cell (p := ⟨g, off + i * 3, none⟩) HG0.out).trans HC.out.1) nq osq
     have z1 := cell_gr (w := wr) (p := ⟨g, off + i * 3 + 1, none⟩) hg1 ((HG.out.below.cell (p := ⟨g, off + i * 3 + 1, none⟩) HG0.out).trans HC.out.2.1) nq osq
     have z2 := cell_gr (w := wr) (p := ⟨g, off + i * 3 + 2, none⟩) hg1 ((HG.out.below.cell (p := ⟨g, off + i * 3 + 2, none⟩) HG0.out).trans HC.out.2.2) nq osq
     have hg2 : g < (grow (wr.drewN nq) osq).heap.size := Nat.lt_of_lt_of_le hg1 hgr1.below.size
     generalize grow (wr.drewN nq) osq = w2 at *
     have hkk : ((k : Int) == (k : Int)) = true := by simp
     go_wp2_with fail
     (refine hq_region mixedT (by kernel_rfl) ?_; (repeat (refine hq_step (fun K hK => ?_); go_simp; first | (refine hK _ ?_; clear hK K) | (apply Exists.intro; refine ⟨fun _ => ?_, hK _ ?_⟩; (fail); clear hK K))); refine hq_nil ?_; intro _ hw'; obtain ⟨⟨nq, osq⟩, hw''⟩ := hw'; subst hw'')
     have hgr2 : Grown wr (grow (w2.drewN nq) osq) := hgr1.more _ _
     have hgA : Grown wr (grow (w2.drewN nq) osq) := hgr2
     have hg3 : g < (grow (w2.drewN nq) osq).heap.size := Nat.lt_of_lt_of_le hg1 hgA.below.size
     have q0 := (hgA.below.cell (p := ⟨g, off + i * 3, none⟩) hg1).trans ((HG.out.below.cell (p := ⟨g, off + i * 3, none⟩) HG0.out).trans HC.out.1)
     have q1 := (hgA.below.cell (p := ⟨g, off + i * 3 + 1, none⟩) hg1).trans ((HG.out.below.cell (p := ⟨g, off + i * 3 + 1, none⟩) HG0.out).trans HC.out.2.1)
     have q2 := (hgA.below.cell (p := ⟨g, off + i * 3 + 2, none⟩) hg1).trans ((HG.out.below.cell (p := ⟨g, off + i * 3 + 2, none⟩) HG0.out).trans HC.out.2.2)
     have hB3 := below_next HB1.out (Nat.le_refl _) hgA.below
     have hR3 := RdK.below hro hgA.below
     have HR9 : Hid (Risen (l.take (i + 1)) (out.take k ++ ⟨xk, xi, xt⟩ :: out.drop k)) := by
      have hkl : k <= out.length := by rw [HM.out]; omega
      refine ⟨rise_insert HRS.out.1 hkl HL.out (fun hj => absurd hj (by rw [HM.out]; omega)), fun v => ?_⟩
      rw [List.take_succ_eq_append_getElem hi', HX.out, List.mem_append, List.mem_append, List.mem_cons, <- HRS.out.2 v, List.mem_singleton]
      have : v ∈ out ↔ v ∈ out.take k ∨ v ∈ out.drop k := by rw [<- List.mem_append, List.take_append_drop]
      rw [this]
      constructor
      ·rintro (h | h | h)
       ·exact .inl (.inl h)
       ·exact .inr h
       ·exact .inl (.inr h)
      ·rintro ((h | h) | h)
       ·exact .inl h
       ·exact .inr (.inr h)
       ·exact .inr (.inl h)
     have hlk : (out.take k).length = k := by rw [List.length_take, HM.out]; omega
     have hld : (out.drop k).length = 0 := by have h1 := HM.out; rw [List.length_drop]; omega
     have hl9 : (out.take k ++ (⟨xk, xi, xt⟩ : Val) :: out.drop k).length = k + 1 := by have h1 := hlk; have h2 := hld; rw [List.length_append, List.length_cons]; omega
     have HL9 := Lib.hid hl9
     clear z0 z1 z2 hgr1 hgr2 hg2 hkk hro
     generalize grow (w2.drewN nq) osq = w3 at *
     obtain ⟨Bc, hcut, hRc⟩ := run_cutW (k := k) hR3 HM.out (by omega) hmd
     rw [Nat.sub_self] at hcut
     have hhead := run_headW (B) k d k (by omega) hmd
     have hRh : RdW w3 (B) (out.take k) := RdK.take hR3 k
     have hb0 : Below w3.heap.size w3 (w3.alloc (.cells #[] 24)) := (Below.refl _ _).alloc (Nat.le_refl _) _
     have hO0 : OwnW (w3.alloc (.cells #[] 24)) w3.heap.size (.slice (some ⟨w3.heap.size, 0, none⟩) 0 0) [] := OwnK.empty (L := layV) w3 w3.heap.size (Nat.le_refl _)
     have hR0 := RdK.below hRh hb0
     have hs0 : w3.heap.size <= (w3.alloc (.cells #[] 24)).heap.size := hb0.size
     go_wp2_with (first
      | (at_builtin; refine wpList_append_k layV (by rfl) (.tmp 46) (.tmp 49) 27 underV rfl w3.heap.size _ [] (by rfl) hO0 (B) (out.take k) k d (by rfl) hR0 hlk (by rw [maxLen_num]; simp; omega) (by show (0 + k) * 32 <= _; omega) hs0 ?_; intro v1 x1 o1 b1 g1 l1; rw [List.nil_append] at o1; have hB1 := b1 w3 hb0; have d0 := (hB1.cell (p := ⟨g, off + i * 3, none⟩) hg3).trans q0; have d1 := (hB1.cell (p := ⟨g, off + i * 3 + 1, none⟩) hg3).trans q1; have d2 := (hB1.cell (p := ⟨g, off + i * 3 + 2, none⟩) hg3).trans q2; have hrx := rdk_one layV x1 ⟨xk, xi, xt⟩ 24 #[.int .i64 xk, .int .i64 xi, .string ⟨xt.toArray⟩] rfl; have hbx : Below x1.heap.size x1 (x1.alloc (.cells #[.int .i64 xk, .int .i64 xi, .string ⟨xt.toArray⟩] 24)) := (Below.refl _ _).alloc (Nat.le_refl _) _; have oo1 := OwnK.below o1 hbx; have hBx := below_next hB1 (Nat.le_refl _) hbx; have hs1 : w3.heap.size <= (x1.alloc (.cells #[.int .i64 xk, .int .i64 xi, .string ⟨xt.toArray⟩] 24)).heap.size := hBx.size; clear b1 g1 l1 hb0 hO0 hR0 hs0 hbx o1 hhead hRh)
      | (at_builtin; refine wpList_append_k layV (by rfl) (.tmp 51) (.tmp 56) 27 underV rfl w3.heap.size _ (out.take k) (by rfl) oo1 _ [⟨xk, xi, xt⟩] 1 1 (by rfl) hrx rfl (by rw [maxLen_num, hlk]; omega) (by show ((out.take k).length + 1) * 32 <= _; rw [hlk]; omega) hs1 ?_; intro v2 x2 o2 b2 g2 l2; have hB2 := b2 w3 hBx; have hR2 := RdK.below hRc hB2; have hs2 : w3.heap.size <= x2.heap.size := hB2.size; clear b2 g2 l2 oo1 hrx hs1 d0 d1 d2)
      | (at_builtin; refine wpList_append_k layV (by rfl) (.tmp 58) (.tmp 61) 27 underV rfl w3.heap.size _ (out.take k ++ [⟨xk, xi, xt⟩]) (by rfl) o2 Bc (out.drop k) 0 (d - k) (by rfl) hR2 hld (by rw [maxLen_num, List.length_append, hlk]; show k + 1 + 0 <= _; omega) (by show ((out.take k ++ [(⟨xk, xi, xt⟩ : Val)]).length + 0) * 32 <= _; rw [List.length_append, hlk]; show (k + 1 + 0) * 32 <= _; omega) hs2 ?_; intro v3 x3 o3 b3 g3 l3; have hB9 := b3 w3 hB2; rw [List.append_assoc, List.singleton_append] at o3; obtain ⟨A9, c9, hv9, hc9, hr9⟩ := OwnK.form o3 HL9.out; subst hv9; clear b3 g3 l3 o2 hR2 hs2))
     have HB9 := Lib.hid (hB3.trans (hB9.mono hB3.size))
     have HO9 := Lib.hid (OwnK.less o3 hB3.size)
     clear hB9 o3 hr9 hB3 hR3 q0 q1 q2 hcut hRc hlk hld hl9 hgA hB1 hB2 hBx
     go_wp2_with fail
     go_roundg (n - (i + 1))
     case measure => omega
     case rel => exact ⟨i + 1, _, A9, k + 1, c9, by omega, Nat.le_refl _, by go_num, rfl, by omega, hc9, HR9, HL9, HO9, HB9⟩
    | succ gk =>
     have hkm : k < m := by omega
     have hkm' : k < out.length := by rw [HM.out]; exact hkm
     obtain ⟨gb, ob, rfl, hgb, b0, b1, b2⟩ := RdW.at3 hro hkm'
     obtain ⟨p, hp⟩ : ∃ p, out[k] = p := ⟨_, rfl⟩
     have hpl := HTL.out _ (List.getElem_mem hkm')
     have HP := Lib.hid hp
     rw [hp] at b0 b1 b2 hpl
     clear hp
     obtain ⟨pk, pi, pt⟩ := p
     dsimp only at b0 b1 b2 hpl
     have f0 := fun n os => cell_gr (w := wr) (p := ⟨gb, ob + k * 3, none⟩) hgb b0 n os
     have f1 := fun n os => cell_gr (w := wr) (p := ⟨gb, ob + k * 3 + 1, none⟩) hgb b1 n os
     have f2 := fun n os => cell_gr (w := wr) (p := ⟨gb, ob + k * 3 + 2, none⟩) hgb b2 n os
     have hk1 : (k : Int) < (m : Int) := by omega
     have hcall : ∀ n' os', Calls Try.prog 69 #[.agg #[.int .i64 pk, .int .i64 pi, .string ⟨pt.toArray⟩], .agg #[.int .i64 xk, .int .i64 xi, .string ⟨xt.toArray⟩]] (grow (wr.drewN n') os') fun e w' => e = .returned (.int .i64 (cmpV ⟨pk, pi, pt⟩ ⟨xk, xi, xt⟩)) /\ ∃ q os'', w' = grow ((grow (wr.drewN n') os').drewN q) os'' := fun n' os' => refCompare_gr pk pi pt xk xi xt (by omega) (by omega) _
     obtain ⟨z, hz⟩ : ∃ z, cmpV ⟨pk, pi, pt⟩ ⟨xk, xi, xt⟩ = z := ⟨_, rfl⟩
     have HZ := Lib.hid hz
     rw [hz] at hcall
     clear hz
     by_cases hneg : z < 0
     ·have hd : decide (z < 0) = true := decide_eq_true hneg
      have HL2 : Hid (∀ j (hj : j < out.length), j < k + 1 -> cmpV out[j] ⟨xk, xi, xt⟩ < 0) := fun j hj h => by
       rcases Nat.lt_or_ge j k with e | e
       ·exact HL.out j hj e
       ·obtain rfl : j = k := by omega
        rw [HP.out, HZ.out]
        exact hneg
      clear b0 b1 b2 hneg
      go_wp2_with fail
      (refine hq_region mixedT (by kernel_rfl) ?_; (repeat (refine hq_step (fun K hK => ?_); go_simp; first | (refine hK _ ?_; clear hK K) | (apply Exists.intro; refine ⟨fun _ => ?_, hK _ ?_⟩; (go_at_call 69; refine Calls.grown_of (hcall _ _)); clear hK K))); refine hq_nil ?_; intro _ hw'; obtain ⟨⟨nq, osq⟩, hw''⟩ := hw'; subst hw'')
      have HG2 := Lib.hid (HG.out.more nq osq)
      clear f0 f1 f2 z0 z1 z2 hcall hd HG hro HB1 HO1
      generalize grow (wr.drewN nq) osq = w2 at *
      go_wp2_with fail
      go_roundg gk
      case measure => omega
      case rel => exact ⟨k + 1, by omega, by go_num, HG2, HL2⟩
     ·have hd : decide (z < 0) = false := decide_eq_false hneg
      have HZ0 := Lib.hid hneg
      clear hneg
      go_wp2_with fail
      (refine hq_region mixedT (by kernel_rfl) ?_; (repeat (refine hq_step (fun K hK => ?_); go_simp; first | (refine hK _ ?_; clear hK K) | (apply Exists.intro; refine ⟨fun _ => ?_, hK _ ?_⟩; (go_at_call 69; refine Calls.grown_of (hcall _ _)); clear hK K))); refine hq_nil ?_; intro _ hw'; obtain ⟨⟨nq, osq⟩, hw''⟩ := hw'; subst hw'')
      have hgr1 : Grown wr (grow (wr.drewN nq) osq) := (Grown.refl _).more _ _
      clear f0 f1 f2 z0 z1 z2 hcall hd
      have hg2 : g < (grow (wr.drewN nq) osq).heap.size := Nat.lt_of_lt_of_le hg1 hgr1.below.size
      have hx0 := (hgr1.below.cell (p := ⟨g, off + i * 3, none⟩) hg1).trans ((HG.out.below.cell (p := ⟨g, off + i * 3, none⟩) HG0.out).trans HC.out.1)
      have hx1 := (hgr1.below.cell (p := ⟨g, off + i * 3 + 1, none⟩) hg1).trans ((HG.out.below.cell (p := ⟨g, off + i * 3 + 1, none⟩) HG0.out).trans HC.out.2.1)
      have hx2 := (hgr1.below.cell (p := ⟨g, off + i * 3 + 2, none⟩) hg1).trans ((HG.out.below.cell (p := ⟨g, off + i * 3 + 2, none⟩) HG0.out).trans HC.out.2.2)
      have hp0 := (hgr1.below.cell (p := ⟨gb, ob + k * 3, none⟩) hgb).trans b0
      have hp1 := (hgr1.below.cell (p := ⟨gb, ob + k * 3 + 1, none⟩) hgb).trans b1
      have hp2 := (hgr1.below.cell (p := ⟨gb, ob + k * 3 + 2, none⟩) hgb).trans b2
      have hgb2 : gb < (grow (wr.drewN nq) osq).heap.size := Nat.lt_of_lt_of_le hgb hgr1.below.size
      clear b0 b1 b2
      generalize grow (wr.drewN nq) osq = w2 at *
      have f0 := fun n os => cell_gr (w := w2) (p := ⟨gb, ob + k * 3, none⟩) hgb2 hp0 n os
      have f1 := fun n os => cell_gr (w := w2) (p := ⟨gb, ob + k * 3 + 1, none⟩) hgb2 hp1 n os
      have f2 := fun n os => cell_gr (w := w2) (p := ⟨gb, ob + k * 3 + 2, none⟩) hgb2 hp2 n os
      have z0 := fun n os => cell_gr (w := w2) (p := ⟨g, off + i * 3, none⟩) hg2 hx0 n os
      have z1 := fun n os => cell_gr (w := w2) (p := ⟨g, off + i * 3 + 1, none⟩) hg2 hx1 n os
      have z2 := fun n os => cell_gr (w := w2) (p := ⟨g, off + i * 3 + 2, none⟩) hg2 hx2 n os
      have hkk : ((k : Int) == (m : Int)) = false := by simp; omega
      clear hp0 hp1 hp2 hx0 hx1 hx2
      by_cases heq : (⟨pk, pi, pt⟩ : Val) = ⟨xk, xi, xt⟩
      ·have HEQ := Lib.hid heq
       injection heq with h1 h2 h3
       subst h1
       subst h2
       subst h3
       go_wp2_with fail
       (refine hq_region mixedT (by kernel_rfl) ?_; (repeat (refine hq_step (fun K hK => ?_); go_simp; first | (refine hK _ ?_; clear hK K) | (apply Exists.intro; refine ⟨fun _ => ?_, hK _ ?_⟩; (fail); clear hK K))); refine hq_nil ?_; intro _ hw'; obtain ⟨⟨nq, osq⟩, hw''⟩ := hw'; subst hw'')
       have hgr2 : Grown wr (grow (w2.drewN nq) osq) := hgr1.more _ _
       have HB3 := Lib.hid (below_next HB1.out (Nat.le_refl _) hgr2.below)
       have HO3 := Lib.hid (OwnK.below HO1.out hgr2.below)
       have HRS3 : Hid (Risen (l.take (i + 1)) out) := by
        refine ⟨HRS.out.1, fun v => ?_⟩
        rw [List.take_succ_eq_append_getElem hi', HX.out, List.mem_append, HRS.out.2 v]
        constructor
        ·exact .inl
        ·rintro (h | h)
         ·exact h
         ·simp only [List.mem_singleton] at h
          rw [h, <- HRS.out.2, <- HP.out]
          exact List.getElem_mem hkm'
       clear f0 f1 f2 z0 z1 z2
       generalize grow (w2.drewN nq) osq = w3 at *
       go_wp2_with fail
       go_roundg (n - (i + 1))
       case measure => omega
       case rel => exact ⟨i + 1, out, _, m, d, by omega, Nat.le_refl _, by go_num, rfl, by omega, hmd, HRS3, HM, HO3, HB3⟩
      ·have hne3 : ¬ (pk = xk /\ pi = xi /\ pt = xt) := fun h => heq (by obtain ⟨rfl, rfl, rfl⟩ := h; rfl)
       have HNE := Lib.hid heq
       clear heq
       by_cases hw1 : pk = xk
       ·obtain rfl : xk = pk := hw1.symm
        clear hw1
        by_cases hw2 : pi = xi
        ·obtain rfl : xi = pi := hw2.symm
         clear hw2
         have hw3 : ¬ pt = xt := fun e => hne3 ⟨rfl, rfl, e⟩
         have hw4 : (pt == xt) = false := by simpa using hw3
         go_wp2_with fail
         (refine hq_region mixedT (by kernel_rfl) ?_; (repeat (refine hq_step (fun K hK => ?_); go_simp; first | (refine hK _ ?_; clear hK K) | (apply Exists.intro; refine ⟨fun _ => ?_, hK _ ?_⟩; (fail); clear hK K))); refine hq_nil ?_; intro _ hw'; obtain ⟨⟨nq, osq⟩, hw''⟩ := hw'; subst hw'')
         have hgr2 : Grown wr (grow (w2.drewN nq) osq) := hgr1.more _ _
         have hgA : Grown wr (grow (w2.drewN nq) osq) := hgr2
         have hg3 : g < (grow (w2.drewN nq) osq).heap.size := Nat.lt_of_lt_of_le hg1 hgA.below.size
         have q0 := (hgA.below.cell (p := ⟨g, off + i * 3, none⟩) hg1).trans ((HG.out.below.cell (p := ⟨g, off + i * 3, none⟩) HG0.out).trans HC.out.1)
         have q1 := (hgA.below.cell (p := ⟨g, off + i * 3 + 1, none⟩) hg1).trans ((HG.out.below.cell (p := ⟨g, off + i * 3 + 1, none⟩) HG0.out).trans HC.out.2.1)
         have q2 := (hgA.below.cell (p := ⟨g, off + i * 3 + 2, none⟩) hg1).trans ((HG.out.below.cell (p := ⟨g, off + i * 3 + 2, none⟩) HG0.out).trans HC.out.2.2)
         have hB3 := below_next HB1.out (Nat.le_refl _) hgA.below
         have hR3 := RdK.below hro hgA.below
         have HR9 : Hid (Risen (l.take (i + 1)) (out.take k ++ ⟨xk, xi, xt⟩ :: out.drop k)) := by
          have hkl : k <= out.length := by rw [HM.out]; omega
          refine ⟨rise_insert HRS.out.1 hkl HL.out (fun hj => by rw [cmpV_neg, HP.out, HZ.out]; have h1 := HZ0.out; have h2 : z ≠ 0 := fun e => HNE.out (cmpV_zero.1 (HZ.out.trans e)); omega), fun v => ?_⟩
          rw [List.take_succ_eq_append_getElem hi', HX.out, List.mem_append, List.mem_append, List.mem_cons, <- HRS.out.2 v, List.mem_singleton]
          have : v ∈ out ↔ v ∈ out.take k ∨ v ∈ out.drop k := by rw [<- List.mem_append, List.take_append_drop]
          rw [this]
          constructor
          ·rintro (h | h | h)
           ·exact .inl (.inl h)
           ·exact .inr h
           ·exact .inl (.inr h)
          ·rintro ((h | h) | h)
           ·exact .inl h
           ·exact .inr (.inr h)
           ·exact .inr (.inl h)
         have hlk : (out.take k).length = k := by rw [List.length_take, HM.out]; omega
         have hld : (out.drop k).length = (m - k) := by have h1 := HM.out; rw [List.length_drop]; omega
         have hl9 : (out.take k ++ (⟨xk, xi, xt⟩ : Val) :: out.drop k).length = m + 1 := by have h1 := hlk; have h2 := hld; rw [List.length_append, List.length_cons]; omega
         have HL9 := Lib.hid hl9
         clear f0 f1 f2 z0 z1 z2 hgr1 hgr2 hg2 hgb2 hkk hro hw3 hw4 hne3
         generalize grow (w2.drewN nq) osq = w3 at *
         obtain ⟨Bc, hcut, hRc⟩ := run_cutW (k := k) hR3 HM.out (by omega) hmd
         skip
         have hhead := run_headW (some ⟨gb, ob, none⟩) m d k (by omega) hmd
         have hRh : RdW w3 (some ⟨gb, ob, none⟩) (out.take k) := RdK.take hR3 k
         have hb0 : Below w3.heap.size w3 (w3.alloc (.cells #[] 24)) := (Below.refl _ _).alloc (Nat.le_refl _) _
         have hO0 : OwnW (w3.alloc (.cells #[] 24)) w3.heap.size (.slice (some ⟨w3.heap.size, 0, none⟩) 0 0) [] := OwnK.empty (L := layV) w3 w3.heap.size (Nat.le_refl _)
         have hR0 := RdK.below hRh hb0
         have hs0 : w3.heap.size <= (w3.alloc (.cells #[] 24)).heap.size := hb0.size
         go_wp2_with (first
          | (at_builtin; refine wpList_append_k layV (by rfl) (.tmp 46) (.tmp 49) 27 underV rfl w3.heap.size _ [] (by rfl) hO0 (some ⟨gb, ob, none⟩) (out.take k) k d (by rfl) hR0 hlk (by rw [maxLen_num]; simp; omega) (by show (0 + k) * 32 <= _; omega) hs0 ?_; intro v1 x1 o1 b1 g1 l1; rw [List.nil_append] at o1; have hB1 := b1 w3 hb0; have d0 := (hB1.cell (p := ⟨g, off + i * 3, none⟩) hg3).trans q0; have d1 := (hB1.cell (p := ⟨g, off + i * 3 + 1, none⟩) hg3).trans q1; have d2 := (hB1.cell (p := ⟨g, off + i * 3 + 2, none⟩) hg3).trans q2; have hrx := rdk_one layV x1 ⟨xk, xi, xt⟩ 24 #[.int .i64 xk, .int .i64 xi, .string ⟨xt.toArray⟩] rfl; have hbx : Below x1.heap.size x1 (x1.alloc (.cells #[.int .i64 xk, .int .i64 xi, .string ⟨xt.toArray⟩] 24)) := (Below.refl _ _).alloc (Nat.le_refl _) _; have oo1 := OwnK.below o1 hbx; have hBx := below_next hB1 (Nat.le_refl _) hbx; have hs1 : w3.heap.size <= (x1.alloc (.cells #[.int .i64 xk, .int .i64 xi, .string ⟨xt.toArray⟩] 24)).heap.size := hBx.size; clear b1 g1 l1 hb0 hO0 hR0 hs0 hbx o1 hhead hRh)
          | (at_builtin; refine wpList_append_k layV (by rfl) (.tmp 51) (.tmp 56) 27 underV rfl w3.heap.size _ (out.take k) (by rfl) oo1 _ [⟨xk, xi, xt⟩] 1 1 (by rfl) hrx rfl (by rw [maxLen_num, hlk]; omega) (by show ((out.take k).length + 1) * 32 <= _; rw [hlk]; omega) hs1 ?_; intro v2 x2 o2 b2 g2 l2; have hB2 := b2 w3 hBx; have hR2 := RdK.below hRc hB2; have hs2 : w3.heap.size <= x2.heap.size := hB2.size; clear b2 g2 l2 oo1 hrx hs1 d0 d1 d2)
          | (at_builtin; refine wpList_append_k layV (by rfl) (.tmp 58) (.tmp 61) 27 underV rfl w3.heap.size _ (out.take k ++ [⟨xk, xi, xt⟩]) (by rfl) o2 Bc (out.drop k) (m - k) (d - k) (by rfl) hR2 hld (by rw [maxLen_num, List.length_append, hlk]; show k + 1 + (m - k) <= _; omega) (by show ((out.take k ++ [(⟨xk, xi, xt⟩ : Val)]).length + (m - k)) * 32 <= _; rw [List.length_append, hlk]; show (k + 1 + (m - k)) * 32 <= _; omega) hs2 ?_; intro v3 x3 o3 b3 g3 l3; have hB9 := b3 w3 hB2; rw [List.append_assoc, List.singleton_append] at o3; obtain ⟨A9, c9, hv9, hc9, hr9⟩ := OwnK.form o3 HL9.out; subst hv9; clear b3 g3 l3 o2 hR2 hs2))
         have HB9 := Lib.hid (hB3.trans (hB9.mono hB3.size))
         have HO9 := Lib.hid (OwnK.less o3 hB3.size)
         clear hB9 o3 hr9 hB3 hR3 q0 q1 q2 hcut hRc hlk hld hl9 hgA hB1 hB2 hBx
         go_wp2_with fail
         go_roundg (n - (i + 1))
         case measure => omega
         case rel => exact ⟨i + 1, _, A9, m + 1, c9, by omega, Nat.le_refl _, by go_num, rfl, by omega, hc9, HR9, HL9, HO9, HB9⟩
        ·have hw4 : (pi == xi) = false := by simpa using hw2
         go_wp2_with fail
         (refine hq_region mixedT (by kernel_rfl) ?_; (repeat (refine hq_step (fun K hK => ?_); go_simp; first | (refine hK _ ?_; clear hK K) | (apply Exists.intro; refine ⟨fun _ => ?_, hK _ ?_⟩; (fail); clear hK K))); refine hq_nil ?_; intro _ hw'; obtain ⟨⟨nq, osq⟩, hw''⟩ := hw'; subst hw'')
         have hgr2 : Grown wr (grow (w2.drewN nq) osq) := hgr1.more _ _
         have hgA : Grown wr (grow (w2.drewN nq) osq) := hgr2
         have hg3 : g < (grow (w2.drewN nq) osq).heap.size := Nat.lt_of_lt_of_le hg1 hgA.below.size
         have q0 := (hgA.below.cell (p := ⟨g, off + i * 3, none⟩) hg1).trans ((HG.out.below.cell (p := ⟨g, off + i * 3, none⟩) HG0.out).trans HC.out.1)
         have q1 := (hgA.below.cell (p := ⟨g, off + i * 3 + 1, none⟩) hg1).trans ((HG.out.below.cell (p := ⟨g, off + i * 3 + 1, none⟩) HG0.out).trans HC.out.2.1)
         have q2 := (hgA.below.cell (p := ⟨g, off + i * 3 + 2, none⟩) hg1).trans ((HG.out.below.cell (p := ⟨g, off + i * 3 + 2, none⟩) HG0.out).trans HC.out.2.2)
         have hB3 := below_next HB1.out (Nat.le_refl _) hgA.below
         have hR3 := RdK.below hro hgA.below
         have HR9 : Hid (Risen (l.take (i + 1)) (out.take k ++ ⟨xk, xi, xt⟩ :: out.drop k)) := by
          have hkl : k <= out.length := by rw [HM.out]; omega
          refine ⟨rise_insert HRS.out.1 hkl HL.out (fun hj => by rw [cmpV_neg, HP.out, HZ.out]; have h1 := HZ0.out; have h2 : z ≠ 0 := fun e => HNE.out (cmpV_zero.1 (HZ.out.trans e)); omega), fun v => ?_⟩
          rw [List.take_succ_eq_append_getElem hi', HX.out, List.mem_append, List.mem_append, List.mem_cons, <- HRS.out.2 v, List.mem_singleton]
          have : v ∈ out ↔ v ∈ out.take k ∨ v ∈ out.drop k := by rw [<- List.mem_append, List.take_append_drop]
          rw [this]
          constructor
          ·rintro (h | h | h)
           ·exact .inl (.inl h)
           ·exact .inr h
           ·exact .inl (.inr h)
          ·rintro ((h | h) | h)
           ·exact .inl h
           ·exact .inr (.inr h)
           ·exact .inr (.inl h)
         have hlk : (out.take k).length = k := by rw [List.length_take, HM.out]; omega
         have hld : (out.drop k).length = (m - k) := by have h1 := HM.out; rw [List.length_drop]; omega
         have hl9 : (out.take k ++ (⟨xk, xi, xt⟩ : Val) :: out.drop k).length = m + 1 := by have h1 := hlk; have h2 := hld; rw [List.length_append, List.length_cons]; omega
         have HL9 := Lib.hid hl9
         clear f0 f1 f2 z0 z1 z2 hgr1 hgr2 hg2 hgb2 hkk hro hw2 hw4 hne3
         generalize grow (w2.drewN nq) osq = w3 at *
         obtain ⟨Bc, hcut, hRc⟩ := run_cutW (k := k) hR3 HM.out (by omega) hmd
         skip
         have hhead := run_headW (some ⟨gb, ob, none⟩) m d k (by omega) hmd
         have hRh : RdW w3 (some ⟨gb, ob, none⟩) (out.take k) := RdK.take hR3 k
         have hb0 : Below w3.heap.size w3 (w3.alloc (.cells #[] 24)) := (Below.refl _ _).alloc (Nat.le_refl _) _
         have hO0 : OwnW (w3.alloc (.cells #[] 24)) w3.heap.size (.slice (some ⟨w3.heap.size, 0, none⟩) 0 0) [] := OwnK.empty (L := layV) w3 w3.heap.size (Nat.le_refl _)
         have hR0 := RdK.below hRh hb0
         have hs0 : w3.heap.size <= (w3.alloc (.cells #[] 24)).heap.size := hb0.size
         go_wp2_with (first
          | (at_builtin; refine wpList_append_k layV (by rfl) (.tmp 46) (.tmp 49) 27 underV rfl w3.heap.size _ [] (by rfl) hO0 (some ⟨gb, ob, none⟩) (out.take k) k d (by rfl) hR0 hlk (by rw [maxLen_num]; simp; omega) (by show (0 + k) * 32 <= _; omega) hs0 ?_; intro v1 x1 o1 b1 g1 l1; rw [List.nil_append] at o1; have hB1 := b1 w3 hb0; have d0 := (hB1.cell (p := ⟨g, off + i * 3, none⟩) hg3).trans q0; have d1 := (hB1.cell (p := ⟨g, off + i * 3 + 1, none⟩) hg3).trans q1; have d2 := (hB1.cell (p := ⟨g, off + i * 3 + 2, none⟩) hg3).trans q2; have hrx := rdk_one layV x1 ⟨xk, xi, xt⟩ 24 #[.int .i64 xk, .int .i64 xi, .string ⟨xt.toArray⟩] rfl; have hbx : Below x1.heap.size x1 (x1.alloc (.cells #[.int .i64 xk, .int .i64 xi, .string ⟨xt.toArray⟩] 24)) := (Below.refl _ _).alloc (Nat.le_refl _) _; have oo1 := OwnK.below o1 hbx; have hBx := below_next hB1 (Nat.le_refl _) hbx; have hs1 : w3.heap.size <= (x1.alloc (.cells #[.int .i64 xk, .int .i64 xi, .string ⟨xt.toArray⟩] 24)).heap.size := hBx.size; clear b1 g1 l1 hb0 hO0 hR0 hs0 hbx o1 hhead hRh)
          | (at_builtin; refine wpList_append_k layV (by rfl) (.tmp 51) (.tmp 56) 27 underV rfl w3.heap.size _ (out.take k) (by rfl) oo1 _ [⟨xk, xi, xt⟩] 1 1 (by rfl) hrx rfl (by rw [maxLen_num, hlk]; omega) (by show ((out.take k).length + 1) * 32 <= _; rw [hlk]; omega) hs1 ?_; intro v2 x2 o2 b2 g2 l2; have hB2 := b2 w3 hBx; have hR2 := RdK.below hRc hB2; have hs2 : w3.heap.size <= x2.heap.size := hB2.size; clear b2 g2 l2 oo1 hrx hs1 d0 d1 d2)
          | (at_builtin; refine wpList_append_k layV (by rfl) (.tmp 58) (.tmp 61) 27 underV rfl w3.heap.size _ (out.take k ++ [⟨xk, xi, xt⟩]) (by rfl) o2 Bc (out.drop k) (m - k) (d - k) (by rfl) hR2 hld (by rw [maxLen_num, List.length_append, hlk]; show k + 1 + (m - k) <= _; omega) (by show ((out.take k ++ [(⟨xk, xi, xt⟩ : Val)]).length + (m - k)) * 32 <= _; rw [List.length_append, hlk]; show (k + 1 + (m - k)) * 32 <= _; omega) hs2 ?_; intro v3 x3 o3 b3 g3 l3; have hB9 := b3 w3 hB2; rw [List.append_assoc, List.singleton_append] at o3; obtain ⟨A9, c9, hv9, hc9, hr9⟩ := OwnK.form o3 HL9.out; subst hv9; clear b3 g3 l3 o2 hR2 hs2))
         have HB9 := Lib.hid (hB3.trans (hB9.mono hB3.size))
         have HO9 := Lib.hid (OwnK.less o3 hB3.size)
         clear hB9 o3 hr9 hB3 hR3 q0 q1 q2 hcut hRc hlk hld hl9 hgA hB1 hB2 hBx
         go_wp2_with fail
         go_roundg (n - (i + 1))
         case measure => omega
         case rel => exact ⟨i + 1, _, A9, m + 1, c9, by omega, Nat.le_refl _, by go_num, rfl, by omega, hc9, HR9, HL9, HO9, HB9⟩
       ·have hw4 : (pk == xk) = false := by simpa using hw1
        go_wp2_with fail
        (refine hq_region mixedT (by kernel_rfl) ?_; (repeat (refine hq_step (fun K hK => ?_); go_simp; first | (refine hK _ ?_; clear hK K) | (apply Exists.intro; refine ⟨fun _ => ?_, hK _ ?_⟩; (fail); clear hK K))); refine hq_nil ?_; intro _ hw'; obtain ⟨⟨nq, osq⟩, hw''⟩ := hw'; subst hw'')
        have hgr2 : Grown wr (grow (w2.drewN nq) osq) := hgr1.more _ _
        have hgA : Grown wr (grow (w2.drewN nq) osq) := hgr2
        have hg3 : g < (grow (w2.drewN nq) osq).heap.size := Nat.lt_of_lt_of_le hg1 hgA.below.size
        have q0 := (hgA.below.cell (p := ⟨g, off + i * 3, none⟩) hg1).trans ((HG.out.below.cell (p := ⟨g, off + i * 3, none⟩) HG0.out).trans HC.out.1)
        have q1 := (hgA.below.cell (p := ⟨g, off + i * 3 + 1, none⟩) hg1).trans ((HG.out.below.cell (p := ⟨g, off + i * 3 + 1, none⟩) HG0.out).trans HC.out.2.1)
        have q2 := (hgA.below.cell (p := ⟨g, off + i * 3 + 2, none⟩) hg1).trans ((HG.out.below.cell (p := ⟨g, off + i * 3 + 2, none⟩) HG0.out).trans HC.out.2.2)
        have hB3 := below_next HB1.out (Nat.le_refl _) hgA.below
        have hR3 := RdK.below hro hgA.below
        have HR9 : Hid (Risen (l.take (i + 1)) (out.take k ++ ⟨xk, xi, xt⟩ :: out.drop k)) := by
         have hkl : k <= out.length := by rw [HM.out]; omega
         refine ⟨rise_insert HRS.out.1 hkl HL.out (fun hj => by rw [cmpV_neg, HP.out, HZ.out]; have h1 := HZ0.out; have h2 : z ≠ 0 := fun e => HNE.out (cmpV_zero.1 (HZ.out.trans e)); omega), fun v => ?_⟩
         rw [List.take_succ_eq_append_getElem hi', HX.out, List.mem_append, List.mem_append, List.mem_cons, <- HRS.out.2 v, List.mem_singleton]
         have : v ∈ out ↔ v ∈ out.take k ∨ v ∈ out.drop k := by rw [<- List.mem_append, List.take_append_drop]
         rw [this]
         constructor
         ·rintro (h | h | h)
          ·exact .inl (.inl h)
          ·exact .inr h
          ·exact .inl (.inr h)
         ·rintro ((h | h) | h)
          ·exact .inl h
          ·exact .inr (.inr h)
          ·exact .inr (.inl h)
        have hlk : (out.take k).length = k := by rw [List.length_take, HM.out]; omega
        have hld : (out.drop k).length = (m - k) := by have h1 := HM.out; rw [List.length_drop]; omega
        have hl9 : (out.take k ++ (⟨xk, xi, xt⟩ : Val) :: out.drop k).length = m + 1 := by have h1 := hlk; have h2 := hld; rw [List.length_append, List.length_cons]; omega
        have HL9 := Lib.hid hl9
        clear f0 f1 f2 z0 z1 z2 hgr1 hgr2 hg2 hgb2 hkk hro hw1 hw4 hne3
        generalize grow (w2.drewN nq) osq = w3 at *
        obtain ⟨Bc, hcut, hRc⟩ := run_cutW (k := k) hR3 HM.out (by omega) hmd
        skip
        have hhead := run_headW (some ⟨gb, ob, none⟩) m d k (by omega) hmd
        have hRh : RdW w3 (some ⟨gb, ob, none⟩) (out.take k) := RdK.take hR3 k
        have hb0 : Below w3.heap.size w3 (w3.alloc (.cells #[] 24)) := (Below.refl _ _).alloc (Nat.le_refl _) _
        have hO0 : OwnW (w3.alloc (.cells #[] 24)) w3.heap.size (.slice (some ⟨w3.heap.size, 0, none⟩) 0 0) [] := OwnK.empty (L := layV) w3 w3.heap.size (Nat.le_refl _)
        have hR0 := RdK.below hRh hb0
        have hs0 : w3.heap.size <= (w3.alloc (.cells #[] 24)).heap.size := hb0.size
        go_wp2_with (first
         | (at_builtin; refine wpList_append_k layV (by rfl) (.tmp 46) (.tmp 49) 27 underV rfl w3.heap.size _ [] (by rfl) hO0 (some ⟨gb, ob, none⟩) (out.take k) k d (by rfl) hR0 hlk (by rw [maxLen_num]; simp; omega) (by show (0 + k) * 32 <= _; omega) hs0 ?_; intro v1 x1 o1 b1 g1 l1; rw [List.nil_append] at o1; have hB1 := b1 w3 hb0; have d0 := (hB1.cell (p := ⟨g, off + i * 3, none⟩) hg3).trans q0; have d1 := (hB1.cell (p := ⟨g, off + i * 3 + 1, none⟩) hg3).trans q1; have d2 := (hB1.cell (p := ⟨g, off + i * 3 + 2, none⟩) hg3).trans q2; have hrx := rdk_one layV x1 ⟨xk, xi, xt⟩ 24 #[.int .i64 xk, .int .i64 xi, .string ⟨xt.toArray⟩] rfl; have hbx : Below x1.heap.size x1 (x1.alloc (.cells #[.int .i64 xk, .int .i64 xi, .string ⟨xt.toArray⟩] 24)) := (Below.refl _ _).alloc (Nat.le_refl _) _; have oo1 := OwnK.below o1 hbx; have hBx := below_next hB1 (Nat.le_refl _) hbx; have hs1 : w3.heap.size <= (x1.alloc (.cells #[.int .i64 xk, .int .i64 xi, .string ⟨xt.toArray⟩] 24)).heap.size := hBx.size; clear b1 g1 l1 hb0 hO0 hR0 hs0 hbx o1 hhead hRh)
         | (at_builtin; refine wpList_append_k layV (by rfl) (.tmp 51) (.tmp 56) 27 underV rfl w3.heap.size _ (out.take k) (by rfl) oo1 _ [⟨xk, xi, xt⟩] 1 1 (by rfl) hrx rfl (by rw [maxLen_num, hlk]; omega) (by show ((out.take k).length + 1) * 32 <= _; rw [hlk]; omega) hs1 ?_; intro v2 x2 o2 b2 g2 l2; have hB2 := b2 w3 hBx; have hR2 := RdK.below hRc hB2; have hs2 : w3.heap.size <= x2.heap.size := hB2.size; clear b2 g2 l2 oo1 hrx hs1 d0 d1 d2)
         | (at_builtin; refine wpList_append_k layV (by rfl) (.tmp 58) (.tmp 61) 27 underV rfl w3.heap.size _ (out.take k ++ [⟨xk, xi, xt⟩]) (by rfl) o2 Bc (out.drop k) (m - k) (d - k) (by rfl) hR2 hld (by rw [maxLen_num, List.length_append, hlk]; show k + 1 + (m - k) <= _; omega) (by show ((out.take k ++ [(⟨xk, xi, xt⟩ : Val)]).length + (m - k)) * 32 <= _; rw [List.length_append, hlk]; show (k + 1 + (m - k)) * 32 <= _; omega) hs2 ?_; intro v3 x3 o3 b3 g3 l3; have hB9 := b3 w3 hB2; rw [List.append_assoc, List.singleton_append] at o3; obtain ⟨A9, c9, hv9, hc9, hr9⟩ := OwnK.form o3 HL9.out; subst hv9; clear b3 g3 l3 o2 hR2 hs2))
        have HB9 := Lib.hid (hB3.trans (hB9.mono hB3.size))
        have HO9 := Lib.hid (OwnK.less o3 hB3.size)
        clear hB9 o3 hr9 hB3 hR3 q0 q1 q2 hcut hRc hlk hld hl9 hgA hB1 hB2 hBx
        go_wp2_with fail
        go_roundg (n - (i + 1))
        case measure => omega
        case rel => exact ⟨i + 1, _, A9, m + 1, c9, by omega, Nat.le_refl _, by go_num, rfl, by omega, hc9, HR9, HL9, HO9, HB9⟩
  ·have hin : i = n := by omega
   subst hin
   have hRS := HRS.out
   rw [List.take_of_length_le (by rw [HN.out]; exact Nat.le_refl _)] at hRS
   go_wp2_with fail
   go_ret
   exact ⟨out, B, m, d, rfl, hRS, HM.out, hmi, hmd, HO.out, HB.out⟩
end Go.Proofs.Ytoffnfooeojhnaa
namespace Go.Proofs.Ytoffnfooeojhnaa
open Go.RowKit Go.Sort Spans Op
theorem len_subV : ∀ (L M : List Val), L.Nodup -> L ⊆ M -> L.length <= M.length
 | [], _, _, _ => by simp
 | x :: L, M, hd, hs => by
  have hx : x ∈ M := hs (by simp)
  have h1 := (List.nodup_cons.1 hd)
  have h2 := len_subV L (M.erase x) h1.2 fun y hy => (List.mem_erase_of_ne (fun e => h1.1 (by rw [<- e]; exact hy))).2 (hs (List.mem_cons_of_mem _ hy))
  have h3 := List.length_erase_of_mem hx
  have h4 := List.length_pos_of_mem hx
  rw [List.length_cons]
  omega
theorem many {f : Nat -> Val} (hf : ∀ a b, f a = f b -> a = b) {l : List Val} {j : Nat} (h : ∀ t, t < j -> f t ∈ l) : j <= l.length := by
 have h1 : ((List.range j).map f).Nodup := by
  rw [List.nodup_iff_pairwise_ne, List.pairwise_map]
  exact (List.nodup_iff_pairwise_ne.1 List.nodup_range).imp fun hne e => hne (hf _ _ e)
 have := len_subV _ l h1 fun v hv => by
  obtain ⟨t, ht, rfl⟩ := List.mem_map.1 hv
  exact h t (List.mem_range.1 ht)
 simpa using this
theorem many_up {K lo : Int} {l : List Val} {j : Nat} (h : ∀ t : Nat, t < j -> (⟨K, lo + t, []⟩ : Val) ∈ l) : j <= l.length :=
 many (f := fun t : Nat => ⟨K, lo + t, []⟩) (fun a b e => by injection e with _ e _; omega) h
theorem many_down {K hi : Int} {l : List Val} {j : Nat} (h : ∀ t : Nat, t < j -> (⟨K, hi - t, []⟩ : Val) ∈ l) : j <= l.length :=
 many (f := fun t : Nat => ⟨K, hi - t, []⟩) (fun a b e => by injection e with _ e _; omega) h
/-- What a function that tells a span gives: a span that is so. -/
def GivesS (w : World) (P : Sp -> Prop) (n : Nat) (e : Ending) (w' : World) : Prop := ∃ r, P r /\ r.no.length <= n /\ Gives w r e w'
theorem bd_num {K x : Int} (hK : K = 1 ∨ K = 3) (h1 : lowest K <= x) (h2 : x <= highest K) : -9223372036854775808 <= x /\ x <= 9223372036854775807 := by
 rcases hK with rfl | rfl <;> simp [lowest, highest] at h1 h2 <;> omega
set_option maxRecDepth 100000 in
set_option maxHeartbeats 4000000 in
theorem rints_more (K lo hi : Int) (A : Option Addr) (l : List Val) (n c : Nat) (hK : K = 1 ∨ K = 3) (hlo : lowest K <= lo) (hhi : hi <= highest K) (hn : l.length = n) (hm : n <= 1000) (hl : ∀ v ∈ l, v.k = K /\ v.t = []) (hle : lo <= hi) (w : World) (hr : RdW w A l) :
  Calls Try.prog 26 #[.int .i64 K, .int .i64 lo, .int .i64 hi, .slice A n c] w (GivesS w (IsInts K lo hi l) n) := by
 have hbl := bd_num hK hlo (Int.le_trans hle hhi)
 have hbh := bd_num hK (Int.le_trans hlo hle) hhi
 obtain ⟨hb1, hb2⟩ := hbl
 obtain ⟨hb3, hb4⟩ := hbh
 have HK := Lib.hid hK
 have HLO := Lib.hid hlo
 have HHI := Lib.hid hhi
 have HN := Lib.hid hn
 have HLL := Lib.hid hl
 have HR := Lib.hid hr
 have hY0 := Blk.new w 29 #[.int .i64 0, .int .i64 0, .int .i64 0, .string ⟨#[]⟩, .string ⟨#[]⟩, .bool false, .slice none 0 0]
 have hB0 : Below w.heap.size w (w.alloc (.cells #[.int .i64 0, .int .i64 0, .int .i64 0, .string ⟨#[]⟩, .string ⟨#[]⟩, .bool false, .slice none 0 0] 29)) := (Below.refl _ _).alloc (Nat.le_refl _) _
 have HY0 := Lib.hid hY0
 have HB0 := Lib.hid hB0
 clear hK hlo hhi hn hl hr hY0 hB0
 go_enter Try.func26, Try.ntmps26
 go_wp2_with fail
 generalize w.alloc (.cells #[.int .i64 0, .int .i64 0, .int .i64 0, .string ⟨#[]⟩, .string ⟨#[]⟩, .bool false, .slice none 0 0] 29) = w0 at *
 go_loopg [1] n (fun gg s1 wr => ∃ (j : Nat) (a : Int), n - j <= gg /\ s1 = .int .i64 a /\ lo <= a /\ a <= hi /\ Hid (a = lo + j) /\ Hid (∀ t : Nat, t < j -> (⟨K, lo + t, []⟩ : Val) ∈ l) /\ Hid (Blk wr w.heap.size 29 #[.int .i64 0, .int .i64 0, .int .i64 0, .string ⟨#[]⟩, .string ⟨#[]⟩, .bool false, .slice none 0 0]) /\ Hid (Below w.heap.size w wr))
 case atStart => exact ⟨0, lo, by omega, rfl, Int.le_refl _, hle, by show lo = lo + ((0 : Nat) : Int); omega, fun t ht => absurd ht (by omega), HY0, HB0⟩
 case round =>
  obtain ⟨j, a, hgg, rfl, ha1, ha2, HJ, HA, HY, HB⟩ := hrel
  clear HY0 HB0
  have v1 : decide (a <= hi) = true := decide_eq_true ha2
  by_cases hin : (⟨K, a, []⟩ : Val) ∈ l
  ·have HIN := Lib.hid hin
   clear hin
   have HA2 : Hid (∀ t : Nat, t < j + 1 -> (⟨K, lo + t, []⟩ : Val) ∈ l) := fun t ht => by
    rcases Nat.lt_or_ge t j with h | h
    ·exact HA.out t h
    ·obtain rfl : t = j := by omega
     rw [<- HJ.out]; exact HIN.out
   have hjn : j + 1 <= n := by rw [<- HN.out]; exact many_up HA2.out
   go_wp2_with fail
   refine (refHas_at A l n c HN.out (by omega) K a [] wr (RdK.below HR.out HB.out) true (decide_eq_true HIN.out)).mono ?_
   rintro e w2 ⟨rfl, hg2⟩
   have hY2 := Blk.below HY.out hg2.below HY.out.lt
   have hB2 := below_next HB.out (Nat.le_refl _) hg2.below
   by_cases hah : a = hi
   ·have v2 : (a == hi) = true := by simpa using hah
    have HF : Hid (IsInts K lo hi l none_) := ints_none HK.out fun x h1 h2 => by
     have := HA2.out (x - lo).toNat (by have := HJ.out; omega)
     rwa [show lo + (((x - lo).toNat : Nat) : Int) = x by omega] at this
    clear hah hg2
    obtain ⟨u0, u1, u2, u3, u4, u5, u6, q0, q1, q2, q3, q4, q5, q6⟩ := blk7 hY2
    have hlY := hY2.lt
    go_wp2_with fail
    refine bodyPost_ret (v := spF 0 0 0 [] [] false none 0 0) (by simp [results, Try.results26, go_sem, u0, u1, u2, u3, u4, u5, u6]) rfl ?_
    exact ⟨none_, HF.out, Nat.zero_le _, none, 0, 0, rfl, rfl, Nat.le_refl _, OwnK.none_ _ _, below_put7 hB2 (Nat.le_refl _) _ _ _ _ _ _ _⟩
   ·have v2 : (a == hi) = false := by simpa using hah
    have HY2 := Lib.hid hY2
    have HB2 := Lib.hid hB2
    have hw1 : a + 1 <= 9223372036854775807 := by omega
    have HJ2 : Hid (a + 1 = lo + ((j + 1 : Nat) : Int)) := by show _ = _; rw [HJ.out]; omega
    have hlt : a + 1 <= hi := by omega
    clear hah hg2 hY2 hB2
    go_wp2_with fail
    go_roundg (n - (j + 1))
    case measure => omega
    case rel => exact ⟨j + 1, a + 1, Nat.le_refl _, by go_num, by omega, hlt, HJ2, HA2, HY2, HB2⟩
  ·have HIN := Lib.hid hin
   clear hin
   go_wp2_with fail
   refine (refHas_at A l n c HN.out (by omega) K a [] wr (RdK.below HR.out HB.out) false (decide_eq_false HIN.out)).mono ?_
   rintro e w2 ⟨rfl, hg2⟩
   have HY2 := Lib.hid (Blk.below HY.out hg2.below HY.out.lt)
   have HB2 := Lib.hid (below_next HB.out (Nat.le_refl _) hg2.below)
   clear hg2 HY HB v1
   go_wp2_with fail
   go_loopg [2] n (fun gg s2 wy => ∃ (j2 : Nat) (b : Int), n - j2 <= gg /\ s2 = .int .i64 b /\ a <= b /\ b <= hi /\ Hid (b = hi - j2) /\ Hid (∀ t : Nat, t < j2 -> (⟨K, hi - t, []⟩ : Val) ∈ l) /\ Hid (Blk wy w.heap.size 29 #[.int .i64 0, .int .i64 0, .int .i64 0, .string ⟨#[]⟩, .string ⟨#[]⟩, .bool false, .slice none 0 0]) /\ Hid (Below w.heap.size w wy))
   case atStart => exact ⟨0, hi, by omega, rfl, ha2, Int.le_refl _, by show hi = hi - ((0 : Nat) : Int); omega, fun t ht => absurd ht (by omega), HY2, HB2⟩
   case round =>
    obtain ⟨j2, b, hgg2, rfl, hb5, hb6, HJ2, HA2, HY, HB⟩ := hrel
    clear HY2 HB2
    have v1 : decide (a <= b) = true := decide_eq_true hb5
    by_cases hin2 : (⟨K, b, []⟩ : Val) ∈ l
    ·have HIN2 := Lib.hid hin2
     have hab : a ≠ b := fun e => HIN.out (by rw [e]; exact hin2)
     clear hin2
     have HA3 : Hid (∀ t : Nat, t < j2 + 1 -> (⟨K, hi - t, []⟩ : Val) ∈ l) := fun t ht => by
      rcases Nat.lt_or_ge t j2 with h | h
      ·exact HA2.out t h
      ·obtain rfl : t = j2 := by omega
       rw [<- HJ2.out]; exact HIN2.out
     have hjn : j2 + 1 <= n := by rw [<- HN.out]; exact many_down HA3.out
     go_wp2_with fail
     refine (refHas_at A l n c HN.out (by omega) K b [] wr (RdK.below HR.out HB.out) true (decide_eq_true HIN2.out)).mono ?_
     rintro e w3 ⟨rfl, hg3⟩
     have HY3 := Lib.hid (Blk.below HY.out hg3.below HY.out.lt)
     have HB3 := Lib.hid (below_next HB.out (Nat.le_refl _) hg3.below)
     have hw1 : -9223372036854775808 <= b - 1 := by omega
     have HJ3 : Hid (b - 1 = hi - ((j2 + 1 : Nat) : Int)) := by show _ = _; rw [HJ2.out]; omega
     have hlt : a <= b - 1 := by omega
     clear hg3 hab
     go_wp2_with fail
     go_roundg (n - (j2 + 1))
     case measure => omega
     case rel => exact ⟨j2 + 1, b - 1, Nat.le_refl _, by go_num, hlt, by omega, HJ3, HA3, HY3, HB3⟩
    ·have HIN2 := Lib.hid hin2
     clear hin2
     go_wp2_with fail
     refine (refHas_at A l n c HN.out (by omega) K b [] wr (RdK.below HR.out HB.out) false (decide_eq_false HIN2.out)).mono ?_
     rintro e w3 ⟨rfl, hg3⟩
     have HY3 := Lib.hid (Blk.below HY.out hg3.below HY.out.lt)
     have HB3 := Lib.hid (below_next HB.out (Nat.le_refl _) hg3.below)
     have v2 : decide (b < a) = false := decide_eq_false (by omega)
     clear hg3 HY HB v1
     go_wp2_with fail
     have hs3 : w.heap.size < w3.heap.size := HY3.out.lt
     go_loopg [9, 10] n (fun gg s9 s10 wz => ∃ (i : Nat) (B : Option Addr) (m d : Nat), i <= n /\ n - i <= gg /\ s10 = .int .i64 (i : Int) /\ s9 = .slice B m d /\ m <= i /\ m <= d /\ Hid (((l.take i).filter fun v => decide (a < v.i) && decide (v.i < b)).length = m) /\ Hid (OwnW wz w3.heap.size (.slice B m d) ((l.take i).filter fun v => decide (a < v.i) && decide (v.i < b))) /\ Hid (Below w3.heap.size w3 wz))
     case atStart => exact ⟨0, none, 0, 0, Nat.zero_le _, by omega, rfl, rfl, Nat.le_refl _, Nat.le_refl _, by show _ = _; simp, by show OwnK _ _ _ _ _; simpa using OwnK.none_ (L := layV) _ _, Below.refl _ _⟩
     case round =>
      obtain ⟨i, B, m, d, hi1, hgg3, rfl, rfl, hmi, hmd, HM, HO, HBz⟩ := hrel
      have HBw := Lib.hid (below_next HB3.out (Nat.le_refl _) HBz.out)
      by_cases hlt : i < n
      ·have hi' : i < l.length := by rw [HN.out]; exact hlt
       obtain ⟨g, off, rfl, hg, c0, c1, c2⟩ := RdW.at3 (RdK.below HR.out HBw.out) hi'
       obtain ⟨x, hx⟩ : ∃ x, l[i] = x := ⟨_, rfl⟩
       have HX := Lib.hid hx
       rw [hx] at c0 c1 c2
       clear hx
       obtain ⟨xk, xi, xt⟩ := x
       dsimp only at c0 c1 c2
       have hw5 : (i : Int) < (n : Int) := by omega
       have hsn : Hid (((l.take (i + 1)).filter fun v => decide (a < v.i) && decide (v.i < b)) = if a < xi /\ xi < b then ((l.take i).filter fun v => decide (a < v.i) && decide (v.i < b)) ++ [⟨xk, xi, xt⟩] else ((l.take i).filter fun v => decide (a < v.i) && decide (v.i < b))) := by
        show _ = _
        rw [List.take_succ_eq_append_getElem hi', HX.out, List.filter_append]
        by_cases h1 : a < xi <;> by_cases h2 : xi < b <;> simp [h1, h2]
       by_cases hbt : a < xi /\ xi < b
       ·have v3 : decide (a < xi) = true := decide_eq_true hbt.1
        have v4 : decide (xi < b) = true := decide_eq_true hbt.2
        have HBT := Lib.hid hbt
        have hrx := rdk_one layV wr ⟨xk, xi, xt⟩ 24 #[.int .i64 xk, .int .i64 xi, .string ⟨xt.toArray⟩] rfl
        have hbb : Below wr.heap.size wr (wr.alloc (.cells #[.int .i64 xk, .int .i64 xi, .string ⟨xt.toArray⟩] 24)) := (Below.refl _ _).alloc (Nat.le_refl _) _
        have hO1 := OwnK.below HO.out hbb
        have hB1 := below_next HBz.out (Nat.le_refl _) hbb
        have hs1 := hB1.size
        obtain ⟨lk, hlk⟩ : ∃ lk, ((l.take i).filter fun v => decide (a < v.i) && decide (v.i < b)) = lk := ⟨_, rfl⟩
        have HLK := Lib.hid hlk
        rw [hlk] at hO1 HM
        clear hlk hbt hbb
        go_wp2_with (at_builtin; refine wpList_append_k layV (by rfl) (.tmp 65) (.tmp 70) 27 underV rfl w3.heap.size _ lk (by rfl) hO1 _ [⟨xk, xi, xt⟩] 1 1 (by rfl) hrx rfl (by rw [maxLen_num, HM.out]; omega) (by show (lk.length + 1) * 32 <= _; rw [HM.out]; omega) hs1 ?_; intro v6 w6 ho6 hB6' hg6' hl6'; have hlen : (lk ++ [(⟨xk, xi, xt⟩ : Val)]).length = m + 1 := (by rw [List.length_append, HM.out]; rfl); obtain ⟨A9, c9, hv9, hc9, hr9⟩ := OwnK.form ho6 hlen; subst hv9)
        have HB6 := Lib.hid (hB6' w3 hB1)
        have HO6 : Hid (OwnW w6 w3.heap.size (.slice A9 (m + 1) c9) ((l.take (i + 1)).filter fun v => decide (a < v.i) && decide (v.i < b))) := by
         show OwnK _ _ _ _ _
         rw [hsn.out, if_pos HBT.out, HLK.out]
         exact ho6
        have HM6 : Hid (((l.take (i + 1)).filter fun v => decide (a < v.i) && decide (v.i < b)).length = m + 1) := by
         show _ = _
         rw [hsn.out, if_pos HBT.out, HLK.out]
         exact hlen
        clear hB6' hg6' hl6' ho6 hlen hr9 hrx hO1 hB1 hs1 c0 c1 c2 hsn v3 v4 HO HM HBz HBw
        go_wp2_with fail
        go_roundg (n - (i + 1))
        case measure => omega
        case rel => exact ⟨i + 1, A9, m + 1, c9, by omega, Nat.le_refl _, by go_num, rfl, by omega, hc9, HM6, HO6, HB6⟩
       ·have HO6 : Hid (OwnW wr w3.heap.size (.slice B m d) ((l.take (i + 1)).filter fun v => decide (a < v.i) && decide (v.i < b))) := by
         show OwnK _ _ _ _ _
         rw [hsn.out, if_neg hbt]
         exact HO.out
        have HM6 : Hid (((l.take (i + 1)).filter fun v => decide (a < v.i) && decide (v.i < b)).length = m) := by
         show _ = _
         rw [hsn.out, if_neg hbt]
         exact HM.out
        clear hsn HO HM
        by_cases h1 : a < xi
        ·have v3 : decide (a < xi) = true := decide_eq_true h1
         have v4 : decide (xi < b) = false := decide_eq_false fun h => hbt ⟨h1, h⟩
         clear hbt
         go_wp2_with fail
         go_roundg (n - (i + 1))
         case measure => omega
         case rel => exact ⟨i + 1, B, m, d, by omega, Nat.le_refl _, by go_num, rfl, by omega, hmd, HM6, HO6, HBz⟩
        ·have v3 : decide (a < xi) = false := decide_eq_false h1
         clear hbt
         go_wp2_with fail
         go_roundg (n - (i + 1))
         case measure => omega
         case rel => exact ⟨i + 1, B, m, d, by omega, Nat.le_refl _, by go_num, rfl, by omega, hmd, HM6, HO6, HBz⟩
      ·have hin3 : i = n := by omega
       subst hin3
       have hO := HO.out
       have hMM := HM.out
       rw [List.take_of_length_le (by rw [HN.out]; exact Nat.le_refl _)] at hO hMM
       obtain ⟨_, _, e1, _, hrd⟩ := OwnK.rd hO
       injection e1 with e1 e2 e3
       subst e1
       have HRD := Lib.hid hrd
       have HMM := Lib.hid hMM
       have HTL : Hid (∀ v ∈ (l.filter fun v => decide (a < v.i) && decide (v.i < b)), v.t.length <= 1000) := fun v hv => by
        rw [(HLL.out v (List.mem_filter.1 hv).1).2]; simp
       have HY4 := Lib.hid (Blk.below HY3.out HBz.out hs3)
       clear hO hMM hrd e2 e3 HO HM HBz
       go_wp2_with fail
       refine (rise_at B (l.filter fun v => decide (a < v.i) && decide (v.i < b)) m d HMM.out (by omega) HTL.out wr HRD.out).mono ?_
       rintro e w5 ⟨out, A7, n7, c7, rfl, hrs, hl7, hnm, hc7, ho7, hb7⟩
       have HP : Hid (IsInts K lo hi l ⟨K, a, b, [], [], false, out⟩) := by
        refine ints_mk HK.out (Int.le_trans HLO.out ha1) (Int.le_trans hb6 HHI.out) hb5 ha1 hb6 (fun x h1 h2 => ?_) (fun x h1 h2 => ?_) HIN.out HIN2.out (fun v => ?_) ?_
        ·have := HA.out (x - lo).toNat (by have := HJ.out; omega)
         rwa [show lo + (((x - lo).toNat : Nat) : Int) = x by omega] at this
        ·have := HA2.out (hi - x).toNat (by have := HJ2.out; omega)
         rwa [show hi - (((hi - x).toNat : Nat) : Int) = x by omega] at this
        ·rw [hrs.2 v, List.mem_filter]
         simp only [Bool.and_eq_true, decide_eq_true_eq]
         exact ⟨fun ⟨h1, h2, h3⟩ => ⟨h1, (HLL.out v h1).1, (HLL.out v h1).2, h2, h3⟩, fun ⟨h1, _, _, h2, h3⟩ => ⟨h1, h2, h3⟩⟩
        ·exact riseN_of (K := K) hrs.1 fun v hv => HLL.out v (List.mem_filter.1 ((hrs.2 v).1 hv)).1
       have hY5 := Blk.below HY4.out hb7 HY4.out.lt
       have hB5 := below_next HBw.out (Nat.le_refl _) hb7
       have hwr : w.heap.size < wr.heap.size := HY4.out.lt
       obtain ⟨u0, u1, u2, u3, u4, u5, u6, q0, q1, q2, q3, q4, q5, q6⟩ := blk7 hY5
       have hlY := hY5.lt
       have HL7 := Lib.hid hl7
       clear hrs hb7 hl7 v2
       go_wp2_with fail
       refine bodyPost_ret (v := spF K a b [] [] false A7 n7 c7) (by simp [results, Try.results26, go_sem, u0, u1, u2, u3, u4, u5, u6]) rfl ?_
       exact ⟨⟨K, a, b, [], [], false, out⟩, HP.out, by show out.length <= _; have := HL7.out; omega, A7, n7, c7, rfl, HL7.out, hc7, (OwnK.put7 ho7 (by omega) _ _ _ _ _ _ _).less (by omega), below_put7 hB5 (Nat.le_refl _) _ _ _ _ _ _ _⟩
set_option maxRecDepth 100000 in
set_option maxHeartbeats 4000000 in
theorem rints_none (K lo hi : Int) (A : Option Addr) (l : List Val) (n c : Nat) (hK : K = 1 ∨ K = 3) (hle : ¬ lo <= hi) (w : World) :
  Calls Try.prog 26 #[.int .i64 K, .int .i64 lo, .int .i64 hi, .slice A n c] w (GivesS w (IsInts K lo hi l) n) := by
 have HF : Hid (IsInts K lo hi l none_) := ints_none hK fun x h1 h2 => absurd (Int.le_trans h1 h2) hle
 have hY0 := Blk.new w 29 #[.int .i64 0, .int .i64 0, .int .i64 0, .string ⟨#[]⟩, .string ⟨#[]⟩, .bool false, .slice none 0 0]
 have hB0 : Below w.heap.size w (w.alloc (.cells #[.int .i64 0, .int .i64 0, .int .i64 0, .string ⟨#[]⟩, .string ⟨#[]⟩, .bool false, .slice none 0 0] 29)) := (Below.refl _ _).alloc (Nat.le_refl _) _
 have HY0 := Lib.hid hY0
 have HB0 := Lib.hid hB0
 have v1 : decide (lo <= hi) = false := decide_eq_false hle
 have v2 : decide (hi < lo) = true := decide_eq_true (by omega)
 clear hK hY0 hB0 hle
 go_enter Try.func26, Try.ntmps26
 go_wp2_with fail
 generalize w.alloc (.cells #[.int .i64 0, .int .i64 0, .int .i64 0, .string ⟨#[]⟩, .string ⟨#[]⟩, .bool false, .slice none 0 0] 29) = w0 at *
 go_loopg [1] 1 (fun _ s1 wr => s1 = .int .i64 lo /\ Hid (Blk wr w.heap.size 29 #[.int .i64 0, .int .i64 0, .int .i64 0, .string ⟨#[]⟩, .string ⟨#[]⟩, .bool false, .slice none 0 0]) /\ Hid (Below w.heap.size w wr))
 case atStart => exact ⟨rfl, HY0, HB0⟩
 case round =>
  obtain ⟨rfl, HY, HB⟩ := hrel
  clear HY0 HB0
  go_wp2_with fail
  go_loopg [2] 1 (fun _ s2 wy => s2 = .int .i64 hi /\ Hid (Blk wy w.heap.size 29 #[.int .i64 0, .int .i64 0, .int .i64 0, .string ⟨#[]⟩, .string ⟨#[]⟩, .bool false, .slice none 0 0]) /\ Hid (Below w.heap.size w wy))
  case atStart => exact ⟨rfl, HY, HB⟩
  case round =>
   obtain ⟨rfl, HY, HB⟩ := hrel
   obtain ⟨u0, u1, u2, u3, u4, u5, u6, q0, q1, q2, q3, q4, q5, q6⟩ := blk7 HY.out
   have hlY := HY.out.lt
   go_wp2_with fail
   refine bodyPost_ret (v := spF 0 0 0 [] [] false none 0 0) (by simp [results, Try.results26, go_sem, u0, u1, u2, u3, u4, u5, u6]) rfl ?_
   exact ⟨none_, HF.out, Nat.zero_le _, none, 0, 0, rfl, rfl, Nat.le_refl _, OwnK.none_ _ _, below_put7 HB.out (Nat.le_refl _) _ _ _ _ _ _ _⟩
theorem rints_at (K lo hi : Int) (A : Option Addr) (l : List Val) (n c : Nat) (hK : K = 1 ∨ K = 3) (hlo : lowest K <= lo) (hhi : hi <= highest K) (hn : l.length = n) (hm : n <= 1000) (hl : ∀ v ∈ l, v.k = K /\ v.t = []) (w : World) (hr : RdW w A l) :
  Calls Try.prog 26 #[.int .i64 K, .int .i64 lo, .int .i64 hi, .slice A n c] w (GivesS w (IsInts K lo hi l) n) := by
 by_cases hle : lo <= hi
 ·exact rints_more K lo hi A l n c hK hlo hhi hn hm hl hle w hr
 ·exact rints_none K lo hi A l n c hK hle w
end Go.Proofs.Ytoffnfooeojhnaa
namespace Go.Proofs.Ytoffnfooeojhnaa
open Go.RowKit Go.Sort Spans Op
theorem many_zs {u : List UInt8} {l : List Val} {j : Nat} (h : ∀ t, t < j -> (⟨2, 0, zs u t⟩ : Val) ∈ l) : j <= l.length :=
 many (f := fun t : Nat => ⟨2, 0, zs u t⟩) (fun a b e => by injection e with _ _ e; have := congrArg List.length e; rw [zs_len, zs_len] at this; omega) h
set_option maxRecDepth 100000 in
set_option maxHeartbeats 8000000 in
theorem rtexts_open (frm : List UInt8) (A : Option Addr) (l : List Val) (n c : Nat) (hf : Short frm) (hn : l.length = n) (hm : n <= 1000) (hl : ∀ v ∈ l, v.k = 2 /\ v.i = 0 /\ v.t.length <= 32) (w : World) (hr : RdW w A l) :
  Calls Try.prog 28 #[.string ⟨frm.toArray⟩, .string ⟨#[]⟩, .bool true, .slice A n c] w (GivesS w (IsTexts frm [] true l) n) := by
 have HSF := Lib.hid hf
 have hfl := hf.len
 have HN := Lib.hid hn
 have HLL := Lib.hid hl
 have HR := Lib.hid hr
 have hY0 := Blk.new w 29 #[.int .i64 0, .int .i64 0, .int .i64 0, .string ⟨#[]⟩, .string ⟨#[]⟩, .bool false, .slice none 0 0]
 have hB0 : Below w.heap.size w (w.alloc (.cells #[.int .i64 0, .int .i64 0, .int .i64 0, .string ⟨#[]⟩, .string ⟨#[]⟩, .bool false, .slice none 0 0] 29)) := (Below.refl _ _).alloc (Nat.le_refl _) _
 have HY0 := Lib.hid hY0
 have HB0 := Lib.hid hB0
 clear hf hn hl hr hY0 hB0
 go_enter Try.func28, Try.ntmps28
 go_wp2_with fail
 generalize w.alloc (.cells #[.int .i64 0, .int .i64 0, .int .i64 0, .string ⟨#[]⟩, .string ⟨#[]⟩, .bool false, .slice none 0 0] 29) = w0 at *
 go_loopg [0] n (fun gg s0 wr => ∃ (a : Nat) (F : List UInt8), n - a <= gg /\ s0 = .string ⟨F.toArray⟩ /\ F.length <= 33 + a /\ a <= n /\ Hid (zs frm a = F) /\ Hid (∀ j, j < a -> (⟨2, 0, zs frm j⟩ : Val) ∈ l) /\ Hid (Blk wr w.heap.size 29 #[.int .i64 0, .int .i64 0, .int .i64 0, .string ⟨#[]⟩, .string ⟨#[]⟩, .bool false, .slice none 0 0]) /\ Hid (Below w.heap.size w wr))
 case atStart => exact ⟨0, frm, by omega, rfl, by omega, Nat.zero_le _, zs_zero frm, fun t ht => absurd ht (by omega), HY0, HB0⟩
 case round =>
  obtain ⟨a, F, hgg, rfl, hFl, han, HF, HA, HY, HB⟩ := hrel
  clear HY0 HB0
  by_cases hin : (⟨2, 0, F⟩ : Val) ∈ l
  ·have HIN := Lib.hid hin
   have HA2 : Hid (∀ j, j < a + 1 -> (⟨2, 0, zs frm j⟩ : Val) ∈ l) := fun t ht => by
    rcases Nat.lt_or_ge t a with h | h
    ·exact HA.out t h
    ·obtain rfl : t = a := by omega
     rw [HF.out]; exact HIN.out
   have hjn : a + 1 <= n := by rw [<- HN.out]; exact many_zs HA2.out
   have HF2 : Hid (zs frm (a + 1) = F ++ [0]) := by show _ = _; rw [zs_succ, HF.out]
   have hap := ba_app0 F
   have hsz : ¬ 9223372036854775807 < F.length + 1 := by omega
   clear hin
   go_wp2_with fail
   refine (refHas_at A l n c HN.out (by omega) 2 0 F wr (RdK.below HR.out HB.out) true (decide_eq_true HIN.out)).mono ?_
   rintro e w2 ⟨rfl, hg2⟩
   have HY2 := Lib.hid (Blk.below HY.out hg2.below HY.out.lt)
   have HB2 := Lib.hid (below_next HB.out (Nat.le_refl _) hg2.below)
   clear hg2
   go_wp2_with fail
   go_roundg (n - (a + 1))
   case measure => omega
   case rel => exact ⟨a + 1, F ++ [0], Nat.le_refl _, by first | rfl | simp, by rw [List.length_append]; show F.length + 1 <= _; omega, hjn, HF2, HA2, HY2, HB2⟩
  ·have HIN := Lib.hid hin
   clear hin
   go_wp2_with fail
   refine (refHas_at A l n c HN.out (by omega) 2 0 F wr (RdK.below HR.out HB.out) false (decide_eq_false HIN.out)).mono ?_
   rintro e w2 ⟨rfl, hg2⟩
   have HY2 := Lib.hid (Blk.below HY.out hg2.below HY.out.lt)
   have HB2 := Lib.hid (below_next HB.out (Nat.le_refl _) hg2.below)
   clear hg2 HY HB
   go_wp2_with fail
   go_loopg [1] 1 (fun _ s1 wy => s1 = .string ⟨#[]⟩ /\ Hid (Blk wy w.heap.size 29 #[.int .i64 0, .int .i64 0, .int .i64 0, .string ⟨#[]⟩, .string ⟨#[]⟩, .bool false, .slice none 0 0]) /\ Hid (Below w.heap.size w wy))
   case atStart => exact ⟨rfl, HY2, HB2⟩
   case round =>
    obtain ⟨rfl, HY, HB⟩ := hrel
    go_wp2_with fail
    have HY3 := HY
    have HB3 := HB
    obtain ⟨w3, rfl⟩ : ∃ w3 : World, w3 = wr := ⟨_, rfl⟩
    have hs3 : w.heap.size < w3.heap.size := HY3.out.lt
    go_loopg [9, 10] n (fun gg s9 s10 wz => ∃ (i : Nat) (B : Option Addr) (m d : Nat), i <= n /\ n - i <= gg /\ s10 = .int .i64 (i : Int) /\ s9 = .slice B m d /\ m <= i /\ m <= d /\ Hid (((l.take i).filter fun v => inT F [] true v.t).length = m) /\ Hid (OwnW wz w3.heap.size (.slice B m d) ((l.take i).filter fun v => inT F [] true v.t)) /\ Hid (Below w3.heap.size w3 wz))
    case atStart => exact ⟨0, none, 0, 0, Nat.zero_le _, by omega, rfl, rfl, Nat.le_refl _, Nat.le_refl _, by show _ = _; simp, by show OwnK _ _ _ _ _; simpa using OwnK.none_ (L := layV) _ _, Below.refl _ _⟩
    case round =>
     obtain ⟨i, B, m, d, hi1, hgg3, rfl, rfl, hmi, hmd, HM, HO, HBz⟩ := hrel
     have HBw := Lib.hid (below_next HB3.out (Nat.le_refl _) HBz.out)
     by_cases hlt : i < n
     ·have hi' : i < l.length := by rw [HN.out]; exact hlt
      obtain ⟨g, off, rfl, hgx, c0, c1, c2⟩ := RdW.at3 (RdK.below HR.out HBw.out) hi'
      have hxl := (HLL.out _ (List.getElem_mem hi')).2.2
      obtain ⟨x, hx⟩ : ∃ x, l[i] = x := ⟨_, rfl⟩
      have HX := Lib.hid hx
      rw [hx] at c0 c1 c2 hxl
      clear hx
      obtain ⟨xk, xi, xt⟩ := x
      dsimp only at c0 c1 c2 hxl
      have hw5 : (i : Int) < (n : Int) := by omega
      have hsn : Hid (((l.take (i + 1)).filter fun v => inT F [] true v.t) = if inT F [] true xt = true then ((l.take i).filter fun v => inT F [] true v.t) ++ [⟨xk, xi, xt⟩] else ((l.take i).filter fun v => inT F [] true v.t)) := by
       show _ = _
       rw [List.take_succ_eq_append_getElem hi', HX.out, List.filter_append]
       by_cases h1 : inT F [] true xt = true <;> simp [h1]
      obtain ⟨z1, hz1⟩ : ∃ z, Vals.cmpT xt F = z := ⟨_, rfl⟩
      have HZ1 := Lib.hid hz1
      clear hz1
      go_wp2_with fail
      refine (textG_at xt F (by omega) (by omega) wr).mono ?_
      rintro e w7 ⟨rfl, hg7⟩
      rw [HZ1.out]
      have HO7 := Lib.hid (OwnK.below HO.out hg7.below)
      have HB7 := Lib.hid (below_next HBz.out (Nat.le_refl _) hg7.below)
      replace c0 := (hg7.below.cell (p := ⟨g, off + i * 3, none⟩) hgx).trans c0
      replace c1 := (hg7.below.cell (p := ⟨g, off + i * 3 + 1, none⟩) hgx).trans c1
      replace c2 := (hg7.below.cell (p := ⟨g, off + i * 3 + 2, none⟩) hgx).trans c2
      have hgx7 : g < w7.heap.size := Nat.lt_of_lt_of_le hgx hg7.below.size
      clear hg7 HO HBz HBw
      cases hlf : bytesLess xt F with
      | true =>
       have v5 : decide (0 <= z1) = false := decide_eq_false (by rw [<- HZ1.out]; have := (cmpT_neg_iff xt F).2 hlf; omega)
       have HT : Hid (¬ inT F [] true xt = true) := by show ¬ _; unfold inT; rw [hlf]; simp
       clear hlf
       have HO8 := HO7
       have HB8 := HB7
       obtain ⟨w8, rfl⟩ : ∃ w8 : World, w8 = w7 := ⟨_, rfl⟩
       have HO6 : Hid (OwnW w8 w3.heap.size (.slice B m d) ((l.take (i + 1)).filter fun v => inT F [] true v.t)) := by
        show OwnK _ _ _ _ _
        rw [hsn.out, if_neg HT.out]
        exact HO8.out
       have HM6 : Hid (((l.take (i + 1)).filter fun v => inT F [] true v.t).length = m) := by
        show _ = _
        rw [hsn.out, if_neg HT.out]
        exact HM.out
       clear hsn HM c0 c1 c2
       go_wp2_with fail
       go_roundg (n - (i + 1))
       case measure => omega
       case rel => exact ⟨i + 1, B, m, d, by omega, Nat.le_refl _, by go_num, rfl, by omega, hmd, HM6, HO6, HB8⟩
      | false =>
       have v5 : decide (0 <= z1) = true := decide_eq_true (by rw [<- HZ1.out]; have : ¬ Vals.cmpT xt F < 0 := (fun h => by have := (cmpT_neg_iff xt F).1 h; rw [hlf] at this; cases this); omega)
       have HLF := Lib.hid hlf
       clear hlf
       have HT : Hid (inT F [] true xt = true) := by show _ = _; unfold inT; rw [HLF.out]; rfl
       have HO8 := HO7
       have HB8 := HB7
       obtain ⟨w8, rfl⟩ : ∃ w8 : World, w8 = w7 := ⟨_, rfl⟩
       have hrx := rdk_one layV w8 ⟨xk, xi, xt⟩ 24 #[.int .i64 xk, .int .i64 xi, .string ⟨xt.toArray⟩] rfl
       have hbb : Below w8.heap.size w8 (w8.alloc (.cells #[.int .i64 xk, .int .i64 xi, .string ⟨xt.toArray⟩] 24)) := (Below.refl _ _).alloc (Nat.le_refl _) _
       have hO1 := OwnK.below HO8.out hbb
       have hB1 := below_next HB8.out (Nat.le_refl _) hbb
       have hs1 := hB1.size
       obtain ⟨lk, hlk⟩ : ∃ lk, ((l.take i).filter fun v => inT F [] true v.t) = lk := ⟨_, rfl⟩
       have HLK := Lib.hid hlk
       rw [hlk] at hO1 HM
       clear hlk hbb
       go_wp2_with (at_builtin; refine wpList_append_k layV (by rfl) (.tmp 83) (.tmp 88) 27 underV rfl w3.heap.size _ lk (by rfl) hO1 _ [⟨xk, xi, xt⟩] 1 1 (by rfl) hrx rfl (by rw [maxLen_num, HM.out]; omega) (by show (lk.length + 1) * 32 <= _; rw [HM.out]; omega) hs1 ?_; intro v6 w6 ho6 hB6' hg6' hl6'; have hlen : (lk ++ [(⟨xk, xi, xt⟩ : Val)]).length = m + 1 := (by rw [List.length_append, HM.out]; rfl); obtain ⟨A9, c9, hv9, hc9, hr9⟩ := OwnK.form ho6 hlen; subst hv9)
       have HB6 := Lib.hid (hB6' w3 hB1)
       have HO6 : Hid (OwnW w6 w3.heap.size (.slice A9 (m + 1) c9) ((l.take (i + 1)).filter fun v => inT F [] true v.t)) := by
        show OwnK _ _ _ _ _
        rw [hsn.out, if_pos HT.out, HLK.out]
        exact ho6
       have HM6 : Hid (((l.take (i + 1)).filter fun v => inT F [] true v.t).length = m + 1) := by
        show _ = _
        rw [hsn.out, if_pos HT.out, HLK.out]
        exact hlen
       clear hB6' hg6' hl6' ho6 hlen hr9 hrx hO1 hB1 hs1 c0 c1 c2 hsn HM
       go_wp2_with fail
       go_roundg (n - (i + 1))
       case measure => omega
       case rel => exact ⟨i + 1, A9, m + 1, c9, by omega, Nat.le_refl _, by go_num, rfl, by omega, hc9, HM6, HO6, HB6⟩
     ·have hin3 : i = n := by omega
      subst hin3
      have hO := HO.out
      have hMM := HM.out
      rw [List.take_of_length_le (by rw [HN.out]; exact Nat.le_refl _)] at hO hMM
      obtain ⟨_, _, e1, _, hrd⟩ := OwnK.rd hO
      injection e1 with e1 e2 e3
      subst e1
      have HRD := Lib.hid hrd
      have HMM := Lib.hid hMM
      have HTL : Hid (∀ v ∈ (l.filter fun v => inT F [] true v.t), v.t.length <= 1000) := fun v hv => by
       have := (HLL.out v (List.mem_filter.1 hv).1).2.2
       omega
      have HY4 := Lib.hid (Blk.below HY3.out HBz.out hs3)
      clear hO hMM hrd e2 e3 HO HM HBz
      go_wp2_with fail
      refine (rise_at B (l.filter fun v => inT F [] true v.t) m d HMM.out (by omega) HTL.out wr HRD.out).mono ?_
      rintro e w5 ⟨out, A7, n7, c7, rfl, hrs, hl7, hnm, hc7, ho7, hb7⟩
      have HP : Hid (IsTexts frm [] true l ⟨2, 0, 0, F, [], true, out⟩) := by
       show IsTexts _ _ _ _ _
       rw [<- HF.out]
       refine texts_mk (b := 0) HA.out (by rw [HF.out]; exact HIN.out) (fun h => by cases h) (moved_short (fun v hv => (HLL.out v hv).2.2) HSF.out HA.out) (fun h => rfl) (fun h => by cases h) HLL.out (fun v => ?_) ?_
       ·rw [hrs.2 v, List.mem_filter, HF.out]
        unfold inT
        simp only [Bool.and_eq_true, Bool.or_eq_true, Bool.not_eq_true']
       ·exact riseT_of hrs.1 fun v hv => by
         have := HLL.out v (List.mem_filter.1 ((hrs.2 v).1 hv)).1
         exact ⟨this.1, this.2.1⟩
      have hY5 := Blk.below HY4.out hb7 HY4.out.lt
      have hB5 := below_next HBw.out (Nat.le_refl _) hb7
      have hwr : w.heap.size < wr.heap.size := HY4.out.lt
      obtain ⟨u0, u1, u2, u3, u4, u5, u6, q0, q1, q2, q3, q4, q5, q6⟩ := blk7 hY5
      have hlY := hY5.lt
      have HL7 := Lib.hid hl7
      clear hrs hb7 hl7
      go_wp2_with fail
      refine bodyPost_ret (v := spF 2 0 0 F [] true A7 n7 c7) (by simp [results, Try.results28, go_sem, u0, u1, u2, u3, u4, u5, u6]) rfl ?_
      exact ⟨⟨2, 0, 0, F, [], true, out⟩, HP.out, by show out.length <= _; have := HL7.out; omega, A7, n7, c7, rfl, HL7.out, hc7, (OwnK.put7 ho7 (by omega) _ _ _ _ _ _ _).less (by omega), below_put7 hB5 (Nat.le_refl _) _ _ _ _ _ _ _⟩
set_option maxRecDepth 100000 in
set_option maxHeartbeats 8000000 in
theorem rtexts_shut (frm to_ : List UInt8) (A : Option Addr) (l : List Val) (n c : Nat) (hf : Short frm) (ht : Short to_) (hn : l.length = n) (hm : n <= 1000) (hl : ∀ v ∈ l, v.k = 2 /\ v.i = 0 /\ v.t.length <= 32) (w : World) (hr : RdW w A l) :
  Calls Try.prog 28 #[.string ⟨frm.toArray⟩, .string ⟨to_.toArray⟩, .bool false, .slice A n c] w (GivesS w (IsTexts frm to_ false l) n) := by
 have HSF := Lib.hid hf
 have hfl := hf.len
 have HST := Lib.hid ht
 have htl := ht.len
 have HN := Lib.hid hn
 have HLL := Lib.hid hl
 have HR := Lib.hid hr
 have hY0 := Blk.new w 29 #[.int .i64 0, .int .i64 0, .int .i64 0, .string ⟨#[]⟩, .string ⟨#[]⟩, .bool false, .slice none 0 0]
 have hB0 : Below w.heap.size w (w.alloc (.cells #[.int .i64 0, .int .i64 0, .int .i64 0, .string ⟨#[]⟩, .string ⟨#[]⟩, .bool false, .slice none 0 0] 29)) := (Below.refl _ _).alloc (Nat.le_refl _) _
 have HY0 := Lib.hid hY0
 have HB0 := Lib.hid hB0
 clear hf ht hn hl hr hY0 hB0
 go_enter Try.func28, Try.ntmps28
 go_wp2_with fail
 generalize w.alloc (.cells #[.int .i64 0, .int .i64 0, .int .i64 0, .string ⟨#[]⟩, .string ⟨#[]⟩, .bool false, .slice none 0 0] 29) = w0 at *
 go_loopg [0] n (fun gg s0 wr => ∃ (a : Nat) (F : List UInt8), n - a <= gg /\ s0 = .string ⟨F.toArray⟩ /\ F.length <= 33 + a /\ a <= n /\ Hid (zs frm a = F) /\ Hid (∀ j, j < a -> (⟨2, 0, zs frm j⟩ : Val) ∈ l) /\ Hid (Blk wr w.heap.size 29 #[.int .i64 0, .int .i64 0, .int .i64 0, .string ⟨#[]⟩, .string ⟨#[]⟩, .bool false, .slice none 0 0]) /\ Hid (Below w.heap.size w wr))
 case atStart => exact ⟨0, frm, by omega, rfl, by omega, Nat.zero_le _, zs_zero frm, fun t ht => absurd ht (by omega), HY0, HB0⟩
 case round =>
  obtain ⟨a, F, hgg, rfl, hFl, han, HF, HA, HY, HB⟩ := hrel
  clear HY0 HB0
  by_cases hin : (⟨2, 0, F⟩ : Val) ∈ l
  ·have HIN := Lib.hid hin
   have HA2 : Hid (∀ j, j < a + 1 -> (⟨2, 0, zs frm j⟩ : Val) ∈ l) := fun t ht => by
    rcases Nat.lt_or_ge t a with h | h
    ·exact HA.out t h
    ·obtain rfl : t = a := by omega
     rw [HF.out]; exact HIN.out
   have hjn : a + 1 <= n := by rw [<- HN.out]; exact many_zs HA2.out
   have HF2 : Hid (zs frm (a + 1) = F ++ [0]) := by show _ = _; rw [zs_succ, HF.out]
   have hap := ba_app0 F
   have hsz : ¬ 9223372036854775807 < F.length + 1 := by omega
   clear hin
   go_wp2_with fail
   refine (refHas_at A l n c HN.out (by omega) 2 0 F wr (RdK.below HR.out HB.out) true (decide_eq_true HIN.out)).mono ?_
   rintro e w2 ⟨rfl, hg2⟩
   have HY2 := Lib.hid (Blk.below HY.out hg2.below HY.out.lt)
   have HB2 := Lib.hid (below_next HB.out (Nat.le_refl _) hg2.below)
   clear hg2
   go_wp2_with fail
   go_roundg (n - (a + 1))
   case measure => omega
   case rel => exact ⟨a + 1, F ++ [0], Nat.le_refl _, by first | rfl | simp, by rw [List.length_append]; show F.length + 1 <= _; omega, hjn, HF2, HA2, HY2, HB2⟩
  ·have HIN := Lib.hid hin
   clear hin
   go_wp2_with fail
   refine (refHas_at A l n c HN.out (by omega) 2 0 F wr (RdK.below HR.out HB.out) false (decide_eq_false HIN.out)).mono ?_
   rintro e w2 ⟨rfl, hg2⟩
   have HY2 := Lib.hid (Blk.below HY.out hg2.below HY.out.lt)
   have HB2 := Lib.hid (below_next HB.out (Nat.le_refl _) hg2.below)
   clear hg2 HY HB
   go_wp2_with fail
   go_loopg [1] n (fun gg s1 wy => ∃ (b : Nat) (E : List UInt8), n - b <= gg /\ s1 = .string ⟨E.toArray⟩ /\ E.length <= 33 /\ b <= n /\ Hid (to_ = zs E b) /\ Hid (∀ j, j < b -> (⟨2, 0, zs E j⟩ : Val) ∈ l) /\ Hid (Blk wy w.heap.size 29 #[.int .i64 0, .int .i64 0, .int .i64 0, .string ⟨#[]⟩, .string ⟨#[]⟩, .bool false, .slice none 0 0]) /\ Hid (Below w.heap.size w wy))
   case atStart => exact ⟨0, to_, by omega, rfl, by omega, Nat.zero_le _, (zs_zero to_).symm, fun t ht => absurd ht (by omega), HY2, HB2⟩
   case round =>
    obtain ⟨b, E, hgg2, rfl, hEl, hbn, HE, HEB, HY, HB⟩ := hrel
    clear HY2 HB2
    obtain ⟨wy, rfl⟩ : ∃ wy : World, wy = wr := ⟨_, rfl⟩
    rcases List.eq_nil_or_concat E with hE0 | ⟨u, x, hE0⟩
    ·subst hE0
     have HC : Hid (∀ u, ([] : List UInt8) = u ++ [0] -> (⟨2, 0, u⟩ : Val) ∉ l) := fun u h => absurd h (by simp)
     obtain ⟨z0, hz0⟩ : ∃ z, Vals.cmpT F [] = z := ⟨_, rfl⟩
     have HZ0 := Lib.hid hz0
     clear hz0
     go_wp2_with fail
     refine (textG_at F [] (by omega) (by omega) wy).mono ?_
     rintro e w3 ⟨rfl, hg3⟩
     rw [HZ0.out]
     have HY3 := Lib.hid (Blk.below HY.out hg3.below HY.out.lt)
     have HB3 := Lib.hid (below_next HB.out (Nat.le_refl _) hg3.below)
     clear hg3 HY HB
     cases hlf : bytesLess F [] with
     | false =>
      have v5 : decide (0 <= z0) = true := decide_eq_true (by rw [<- HZ0.out]; have : ¬ Vals.cmpT F [] < 0 := (fun h => by have := (cmpT_neg_iff F []).1 h; rw [hlf] at this; cases this); omega)
      have HFN : Hid (IsTexts frm to_ false l none_) := by
       show IsTexts _ _ _ _ _
       rw [HE.out]
       exact texts_none HA.out HEB.out (by rw [HF.out]; exact hlf)
      clear hlf
      obtain ⟨u0, u1, u2, u3, u4, u5, u6, q0, q1, q2, q3, q4, q5, q6⟩ := blk7 HY3.out
      have hlY := HY3.out.lt
      go_wp2_with fail
      refine bodyPost_ret (v := spF 0 0 0 [] [] false none 0 0) (by simp [results, Try.results28, go_sem, u0, u1, u2, u3, u4, u5, u6]) rfl ?_
      exact ⟨none_, HFN.out, Nat.zero_le _, none, 0, 0, rfl, rfl, Nat.le_refl _, OwnK.none_ _ _, below_put7 HB3.out (Nat.le_refl _) _ _ _ _ _ _ _⟩
     | true =>
      have v5 : decide (0 <= z0) = false := decide_eq_false (by rw [<- HZ0.out]; have := (cmpT_neg_iff F []).2 hlf; omega)
      have HLE := Lib.hid hlf
      clear hlf
      go_wp2_with fail
      clear v5
      have hs3 : w.heap.size < w3.heap.size := HY3.out.lt
      go_loopg [9, 10] n (fun gg s9 s10 wz => ∃ (i : Nat) (B : Option Addr) (m d : Nat), i <= n /\ n - i <= gg /\ s10 = .int .i64 (i : Int) /\ s9 = .slice B m d /\ m <= i /\ m <= d /\ Hid (((l.take i).filter fun v => inT F [] false v.t).length = m) /\ Hid (OwnW wz w3.heap.size (.slice B m d) ((l.take i).filter fun v => inT F [] false v.t)) /\ Hid (Below w3.heap.size w3 wz))
      case atStart => exact ⟨0, none, 0, 0, Nat.zero_le _, by omega, rfl, rfl, Nat.le_refl _, Nat.le_refl _, by show _ = _; simp, by show OwnK _ _ _ _ _; simpa using OwnK.none_ (L := layV) _ _, Below.refl _ _⟩
      case round =>
       obtain ⟨i, B, m, d, hi1, hgg3, rfl, rfl, hmi, hmd, HM, HO, HBz⟩ := hrel
       have HBw := Lib.hid (below_next HB3.out (Nat.le_refl _) HBz.out)
       by_cases hlt : i < n
       ·have hi' : i < l.length := by rw [HN.out]; exact hlt
        obtain ⟨g, off, rfl, hgx, c0, c1, c2⟩ := RdW.at3 (RdK.below HR.out HBw.out) hi'
        have hxl := (HLL.out _ (List.getElem_mem hi')).2.2
        obtain ⟨x, hx⟩ : ∃ x, l[i] = x := ⟨_, rfl⟩
        have HX := Lib.hid hx
        rw [hx] at c0 c1 c2 hxl
        clear hx
        obtain ⟨xk, xi, xt⟩ := x
        dsimp only at c0 c1 c2 hxl
        have hw5 : (i : Int) < (n : Int) := by omega
        have hsn : Hid (((l.take (i + 1)).filter fun v => inT F [] false v.t) = if inT F [] false xt = true then ((l.take i).filter fun v => inT F [] false v.t) ++ [⟨xk, xi, xt⟩] else ((l.take i).filter fun v => inT F [] false v.t)) := by
         show _ = _
         rw [List.take_succ_eq_append_getElem hi', HX.out, List.filter_append]
         by_cases h1 : inT F [] false xt = true <;> simp [h1]
        obtain ⟨z1, hz1⟩ : ∃ z, Vals.cmpT xt F = z := ⟨_, rfl⟩
        have HZ1 := Lib.hid hz1
        clear hz1
        go_wp2_with fail
        refine (textG_at xt F (by omega) (by omega) wr).mono ?_
        rintro e w7 ⟨rfl, hg7⟩
        rw [HZ1.out]
        have HO7 := Lib.hid (OwnK.below HO.out hg7.below)
        have HB7 := Lib.hid (below_next HBz.out (Nat.le_refl _) hg7.below)
        replace c0 := (hg7.below.cell (p := ⟨g, off + i * 3, none⟩) hgx).trans c0
        replace c1 := (hg7.below.cell (p := ⟨g, off + i * 3 + 1, none⟩) hgx).trans c1
        replace c2 := (hg7.below.cell (p := ⟨g, off + i * 3 + 2, none⟩) hgx).trans c2
        have hgx7 : g < w7.heap.size := Nat.lt_of_lt_of_le hgx hg7.below.size
        clear hg7 HO HBz HBw
        cases hlf : bytesLess xt F with
        | true =>
         have v5 : decide (0 <= z1) = false := decide_eq_false (by rw [<- HZ1.out]; have := (cmpT_neg_iff xt F).2 hlf; omega)
         have HT : Hid (¬ inT F [] false xt = true) := by show ¬ _; unfold inT; rw [hlf]; simp
         clear hlf
         have HO8 := HO7
         have HB8 := HB7
         obtain ⟨w8, rfl⟩ : ∃ w8 : World, w8 = w7 := ⟨_, rfl⟩
         have HO6 : Hid (OwnW w8 w3.heap.size (.slice B m d) ((l.take (i + 1)).filter fun v => inT F [] false v.t)) := by
          show OwnK _ _ _ _ _
          rw [hsn.out, if_neg HT.out]
          exact HO8.out
         have HM6 : Hid (((l.take (i + 1)).filter fun v => inT F [] false v.t).length = m) := by
          show _ = _
          rw [hsn.out, if_neg HT.out]
          exact HM.out
         clear hsn HM c0 c1 c2
         go_wp2_with fail
         go_roundg (n - (i + 1))
         case measure => omega
         case rel => exact ⟨i + 1, B, m, d, by omega, Nat.le_refl _, by go_num, rfl, by omega, hmd, HM6, HO6, HB8⟩
        | false =>
         have v5 : decide (0 <= z1) = true := decide_eq_true (by rw [<- HZ1.out]; have : ¬ Vals.cmpT xt F < 0 := (fun h => by have := (cmpT_neg_iff xt F).1 h; rw [hlf] at this; cases this); omega)
         have HLF := Lib.hid hlf
         clear hlf
         obtain ⟨z2, hz2⟩ : ∃ z, Vals.cmpT xt [] = z := ⟨_, rfl⟩
         have HZ2 := Lib.hid hz2
         clear hz2
         go_wp2_with fail
         refine (textG_at xt [] (by omega) (by omega) w7).mono ?_
         rintro e w8 ⟨rfl, hg8⟩
         rw [HZ2.out]
         have hgb := hg8.below
         have HO8 := Lib.hid (OwnK.below HO7.out hgb)
         have HB8 := Lib.hid (below_next HB7.out (Nat.le_refl _) hgb)
         replace c0 := (hgb.cell (p := ⟨g, off + i * 3, none⟩) hgx7).trans c0
         replace c1 := (hgb.cell (p := ⟨g, off + i * 3 + 1, none⟩) hgx7).trans c1
         replace c2 := (hgb.cell (p := ⟨g, off + i * 3 + 2, none⟩) hgx7).trans c2
         have hgx8 : g < w8.heap.size := Nat.lt_of_lt_of_le hgx7 hgb.size
         clear hgb hg8
         by_cases hlt2 : bytesLess xt [] = true
         ·have v6 : decide (z2 < 0) = true := decide_eq_true (by rw [<- HZ2.out]; exact (cmpT_neg_iff _ _).2 hlt2)
          have HT : Hid (inT F [] false xt = true) := by show _ = _; unfold inT; rw [HLF.out, hlt2]; rfl
          clear hlt2 v5
          have hrx := rdk_one layV w8 ⟨xk, xi, xt⟩ 24 #[.int .i64 xk, .int .i64 xi, .string ⟨xt.toArray⟩] rfl
          have hbb : Below w8.heap.size w8 (w8.alloc (.cells #[.int .i64 xk, .int .i64 xi, .string ⟨xt.toArray⟩] 24)) := (Below.refl _ _).alloc (Nat.le_refl _) _
          have hO1 := OwnK.below HO8.out hbb
          have hB1 := below_next HB8.out (Nat.le_refl _) hbb
          have hs1 := hB1.size
          obtain ⟨lk, hlk⟩ : ∃ lk, ((l.take i).filter fun v => inT F [] false v.t) = lk := ⟨_, rfl⟩
          have HLK := Lib.hid hlk
          rw [hlk] at hO1 HM
          clear hlk hbb
          go_wp2_with (at_builtin; refine wpList_append_k layV (by rfl) (.tmp 83) (.tmp 88) 27 underV rfl w3.heap.size _ lk (by rfl) hO1 _ [⟨xk, xi, xt⟩] 1 1 (by rfl) hrx rfl (by rw [maxLen_num, HM.out]; omega) (by show (lk.length + 1) * 32 <= _; rw [HM.out]; omega) hs1 ?_; intro v6 w6 ho6 hB6' hg6' hl6'; have hlen : (lk ++ [(⟨xk, xi, xt⟩ : Val)]).length = m + 1 := (by rw [List.length_append, HM.out]; rfl); obtain ⟨A9, c9, hv9, hc9, hr9⟩ := OwnK.form ho6 hlen; subst hv9)
          have HB6 := Lib.hid (hB6' w3 hB1)
          have HO6 : Hid (OwnW w6 w3.heap.size (.slice A9 (m + 1) c9) ((l.take (i + 1)).filter fun v => inT F [] false v.t)) := by
           show OwnK _ _ _ _ _
           rw [hsn.out, if_pos HT.out, HLK.out]
           exact ho6
          have HM6 : Hid (((l.take (i + 1)).filter fun v => inT F [] false v.t).length = m + 1) := by
           show _ = _
           rw [hsn.out, if_pos HT.out, HLK.out]
           exact hlen
          clear hB6' hg6' hl6' ho6 hlen hr9 hrx hO1 hB1 hs1 c0 c1 c2 hsn HM
          go_wp2_with fail
          go_roundg (n - (i + 1))
          case measure => omega
          case rel => exact ⟨i + 1, A9, m + 1, c9, by omega, Nat.le_refl _, by go_num, rfl, by omega, hc9, HM6, HO6, HB6⟩
         ·have v6 : decide (z2 < 0) = false := decide_eq_false (by rw [<- HZ2.out]; exact fun h => hlt2 ((cmpT_neg_iff _ _).1 h))
          have HT : Hid (¬ inT F [] false xt = true) := fun h => hlt2 (by unfold inT at h; rw [HLF.out] at h; simpa using h)
          clear hlt2 v5
          have HO6 : Hid (OwnW w8 w3.heap.size (.slice B m d) ((l.take (i + 1)).filter fun v => inT F [] false v.t)) := by
           show OwnK _ _ _ _ _
           rw [hsn.out, if_neg HT.out]
           exact HO8.out
          have HM6 : Hid (((l.take (i + 1)).filter fun v => inT F [] false v.t).length = m) := by
           show _ = _
           rw [hsn.out, if_neg HT.out]
           exact HM.out
          clear hsn HM c0 c1 c2
          go_wp2_with fail
          go_roundg (n - (i + 1))
          case measure => omega
          case rel => exact ⟨i + 1, B, m, d, by omega, Nat.le_refl _, by go_num, rfl, by omega, hmd, HM6, HO6, HB8⟩
       ·have hin3 : i = n := by omega
        subst hin3
        have hO := HO.out
        have hMM := HM.out
        rw [List.take_of_length_le (by rw [HN.out]; exact Nat.le_refl _)] at hO hMM
        obtain ⟨_, _, e1, _, hrd⟩ := OwnK.rd hO
        injection e1 with e1 e2 e3
        subst e1
        have HRD := Lib.hid hrd
        have HMM := Lib.hid hMM
        have HTL : Hid (∀ v ∈ (l.filter fun v => inT F [] false v.t), v.t.length <= 1000) := fun v hv => by
         have := (HLL.out v (List.mem_filter.1 hv).1).2.2
         omega
        have HY4 := Lib.hid (Blk.below HY3.out HBz.out hs3)
        clear hO hMM hrd e2 e3 HO HM HBz
        go_wp2_with fail
        refine (rise_at B (l.filter fun v => inT F [] false v.t) m d HMM.out (by omega) HTL.out wr HRD.out).mono ?_
        rintro e w5 ⟨out, A7, n7, c7, rfl, hrs, hl7, hnm, hc7, ho7, hb7⟩
        have HP : Hid (IsTexts frm to_ false l ⟨2, 0, 0, F, [], false, out⟩) := by
         show IsTexts _ _ _ _ _
         rw [<- HF.out]
         refine texts_mk HA.out (by rw [HF.out]; exact HIN.out) (fun h => ⟨HE.out, HEB.out⟩) (moved_short (fun v hv => (HLL.out v hv).2.2) HSF.out HA.out) (fun h => by cases h) (fun h => ⟨moved_short' (fun v hv => (HLL.out v hv).2.2) (by rw [<- HE.out]; exact HST.out) HEB.out, by rw [HF.out]; exact HLE.out, HC.out⟩) HLL.out (fun v => ?_) ?_
         ·rw [hrs.2 v, List.mem_filter, HF.out]
          unfold inT
          simp only [Bool.and_eq_true, Bool.or_eq_true, Bool.not_eq_true']
         ·exact riseT_of hrs.1 fun v hv => by
           have := HLL.out v (List.mem_filter.1 ((hrs.2 v).1 hv)).1
           exact ⟨this.1, this.2.1⟩
        have hY5 := Blk.below HY4.out hb7 HY4.out.lt
        have hB5 := below_next HBw.out (Nat.le_refl _) hb7
        have hwr : w.heap.size < wr.heap.size := HY4.out.lt
        obtain ⟨u0, u1, u2, u3, u4, u5, u6, q0, q1, q2, q3, q4, q5, q6⟩ := blk7 hY5
        have hlY := hY5.lt
        have HL7 := Lib.hid hl7
        clear hrs hb7 hl7
        go_wp2_with fail
        refine bodyPost_ret (v := spF 2 0 0 F [] false A7 n7 c7) (by simp [results, Try.results28, go_sem, u0, u1, u2, u3, u4, u5, u6]) rfl ?_
        exact ⟨⟨2, 0, 0, F, [], false, out⟩, HP.out, by show out.length <= _; have := HL7.out; omega, A7, n7, c7, rfl, HL7.out, hc7, (OwnK.put7 ho7 (by omega) _ _ _ _ _ _ _).less (by omega), below_put7 hB5 (Nat.le_refl _) _ _ _ _ _ _ _⟩
    ·rw [List.concat_eq_append] at hE0
     subst hE0
     have hul : u.length + 1 <= 33 := by rw [List.length_append] at hEl; exact hEl
     have hz1 : (⟨(u ++ [x]).toArray⟩ : ByteArray).size = u.length + 1 := by simp [ByteArray.size]
     have hz2 : ∀ h, (⟨(u ++ [x]).toArray⟩ : ByteArray)[u.length]'h = x := fun _ => by show (u ++ [x]).toArray[u.length] = x; simp
     have hz3 := ext_init u x
     have hwu : IntKind.i64.wrap (u.length : Int) = (u.length : Int) := by rw [IntKind.wrap_i64]; omega
     by_cases hx0 : x = 0
     ·subst hx0
      by_cases hin2 : (⟨2, 0, u⟩ : Val) ∈ l
      ·have HIN2 := Lib.hid hin2
       have HE2 : Hid (to_ = zs u (b + 1)) := by
        show _ = _
        rw [HE.out, show u ++ [0] = zs u 1 by rw [zs_succ, zs_zero], zs_add, Nat.add_comm]
       have HEB2 : Hid (∀ j, j < b + 1 -> (⟨2, 0, zs u j⟩ : Val) ∈ l) := fun j hj => by
        cases j with
        | zero => rw [zs_zero]; exact HIN2.out
        | succ j =>
         have := HEB.out j (by omega)
         rwa [show u ++ [0] = zs u 1 by rw [zs_succ, zs_zero], zs_add, Nat.add_comm] at this
       have hjn : b + 1 <= n := by rw [<- HN.out]; exact many_zs HEB2.out
       clear hin2
       go_wp2_with fail
       refine (refHas_at A l n c HN.out (by omega) 2 0 u wy (RdK.below HR.out HB.out) true (decide_eq_true HIN2.out)).mono ?_
       rintro e w3 ⟨rfl, hg3⟩
       have HY3 := Lib.hid (Blk.below HY.out hg3.below HY.out.lt)
       have HB3 := Lib.hid (below_next HB.out (Nat.le_refl _) hg3.below)
       clear hg3
       go_wp2_with fail
       go_roundg (n - (b + 1))
       case measure => omega
       case rel => exact ⟨b + 1, u, Nat.le_refl _, by first | rfl | simp, by omega, hjn, HE2, HEB2, HY3, HB3⟩
      ·have HC : Hid (∀ v, u ++ [0] = v ++ [0] -> (⟨2, 0, v⟩ : Val) ∉ l) := fun v h => by
        have := List.append_inj_left' h rfl
        subst this
        exact hin2
       have HIN2 := Lib.hid hin2
       clear hin2
       go_wp2_with fail
       refine (refHas_at A l n c HN.out (by omega) 2 0 u wy (RdK.below HR.out HB.out) false (decide_eq_false HIN2.out)).mono ?_
       rintro e w2 ⟨rfl, hg2⟩
       replace HY := Lib.hid (Blk.below HY.out hg2.below HY.out.lt)
       replace HB := Lib.hid (below_next HB.out (Nat.le_refl _) hg2.below)
       clear hg2 hz2 hz3 hwu
       generalize w2 = wy at *
       obtain ⟨z0, hz0⟩ : ∃ z, Vals.cmpT F (u ++ [0]) = z := ⟨_, rfl⟩
       have HZ0 := Lib.hid hz0
       clear hz0
       go_wp2_with fail
       refine (textG_at F (u ++ [0]) (by omega) (by omega) wy).mono ?_
       rintro e w3 ⟨rfl, hg3⟩
       rw [HZ0.out]
       have HY3 := Lib.hid (Blk.below HY.out hg3.below HY.out.lt)
       have HB3 := Lib.hid (below_next HB.out (Nat.le_refl _) hg3.below)
       clear hg3 HY HB
       cases hlf : bytesLess F (u ++ [0]) with
       | false =>
        have v5 : decide (0 <= z0) = true := decide_eq_true (by rw [<- HZ0.out]; have : ¬ Vals.cmpT F (u ++ [0]) < 0 := (fun h => by have := (cmpT_neg_iff F (u ++ [0])).1 h; rw [hlf] at this; cases this); omega)
        have HFN : Hid (IsTexts frm to_ false l none_) := by
         show IsTexts _ _ _ _ _
         rw [HE.out]
         exact texts_none HA.out HEB.out (by rw [HF.out]; exact hlf)
        clear hlf
        obtain ⟨u0, u1, u2, u3, u4, u5, u6, q0, q1, q2, q3, q4, q5, q6⟩ := blk7 HY3.out
        have hlY := HY3.out.lt
        go_wp2_with fail
        refine bodyPost_ret (v := spF 0 0 0 [] [] false none 0 0) (by simp [results, Try.results28, go_sem, u0, u1, u2, u3, u4, u5, u6]) rfl ?_
        exact ⟨none_, HFN.out, Nat.zero_le _, none, 0, 0, rfl, rfl, Nat.le_refl _, OwnK.none_ _ _, below_put7 HB3.out (Nat.le_refl _) _ _ _ _ _ _ _⟩
       | true =>
        have v5 : decide (0 <= z0) = false := decide_eq_false (by rw [<- HZ0.out]; have := (cmpT_neg_iff F (u ++ [0])).2 hlf; omega)
        have HLE := Lib.hid hlf
        clear hlf
        go_wp2_with fail
        clear v5
        have hs3 : w.heap.size < w3.heap.size := HY3.out.lt
        go_loopg [9, 10] n (fun gg s9 s10 wz => ∃ (i : Nat) (B : Option Addr) (m d : Nat), i <= n /\ n - i <= gg /\ s10 = .int .i64 (i : Int) /\ s9 = .slice B m d /\ m <= i /\ m <= d /\ Hid (((l.take i).filter fun v => inT F (u ++ [0]) false v.t).length = m) /\ Hid (OwnW wz w3.heap.size (.slice B m d) ((l.take i).filter fun v => inT F (u ++ [0]) false v.t)) /\ Hid (Below w3.heap.size w3 wz))
        case atStart => exact ⟨0, none, 0, 0, Nat.zero_le _, by omega, rfl, rfl, Nat.le_refl _, Nat.le_refl _, by show _ = _; simp, by show OwnK _ _ _ _ _; simpa using OwnK.none_ (L := layV) _ _, Below.refl _ _⟩
        case round =>
         obtain ⟨i, B, m, d, hi1, hgg3, rfl, rfl, hmi, hmd, HM, HO, HBz⟩ := hrel
         have HBw := Lib.hid (below_next HB3.out (Nat.le_refl _) HBz.out)
         by_cases hlt : i < n
         ·have hi' : i < l.length := by rw [HN.out]; exact hlt
          obtain ⟨g, off, rfl, hgx, c0, c1, c2⟩ := RdW.at3 (RdK.below HR.out HBw.out) hi'
          have hxl := (HLL.out _ (List.getElem_mem hi')).2.2
          obtain ⟨x, hx⟩ : ∃ x, l[i] = x := ⟨_, rfl⟩
          have HX := Lib.hid hx
          rw [hx] at c0 c1 c2 hxl
          clear hx
          obtain ⟨xk, xi, xt⟩ := x
          dsimp only at c0 c1 c2 hxl
          have hw5 : (i : Int) < (n : Int) := by omega
          have hsn : Hid (((l.take (i + 1)).filter fun v => inT F (u ++ [0]) false v.t) = if inT F (u ++ [0]) false xt = true then ((l.take i).filter fun v => inT F (u ++ [0]) false v.t) ++ [⟨xk, xi, xt⟩] else ((l.take i).filter fun v => inT F (u ++ [0]) false v.t)) := by
           show _ = _
           rw [List.take_succ_eq_append_getElem hi', HX.out, List.filter_append]
           by_cases h1 : inT F (u ++ [0]) false xt = true <;> simp [h1]
          obtain ⟨z1, hz1⟩ : ∃ z, Vals.cmpT xt F = z := ⟨_, rfl⟩
          have HZ1 := Lib.hid hz1
          clear hz1
          go_wp2_with fail
          refine (textG_at xt F (by omega) (by omega) wr).mono ?_
          rintro e w7 ⟨rfl, hg7⟩
          rw [HZ1.out]
          have HO7 := Lib.hid (OwnK.below HO.out hg7.below)
          have HB7 := Lib.hid (below_next HBz.out (Nat.le_refl _) hg7.below)
          replace c0 := (hg7.below.cell (p := ⟨g, off + i * 3, none⟩) hgx).trans c0
          replace c1 := (hg7.below.cell (p := ⟨g, off + i * 3 + 1, none⟩) hgx).trans c1
          replace c2 := (hg7.below.cell (p := ⟨g, off + i * 3 + 2, none⟩) hgx).trans c2
          have hgx7 : g < w7.heap.size := Nat.lt_of_lt_of_le hgx hg7.below.size
          clear hg7 HO HBz HBw
          cases hlf : bytesLess xt F with
          | true =>
           have v5 : decide (0 <= z1) = false := decide_eq_false (by rw [<- HZ1.out]; have := (cmpT_neg_iff xt F).2 hlf; omega)
           have HT : Hid (¬ inT F (u ++ [0]) false xt = true) := by show ¬ _; unfold inT; rw [hlf]; simp
           clear hlf
           have HO8 := HO7
           have HB8 := HB7
           obtain ⟨w8, rfl⟩ : ∃ w8 : World, w8 = w7 := ⟨_, rfl⟩
           have HO6 : Hid (OwnW w8 w3.heap.size (.slice B m d) ((l.take (i + 1)).filter fun v => inT F (u ++ [0]) false v.t)) := by
            show OwnK _ _ _ _ _
            rw [hsn.out, if_neg HT.out]
            exact HO8.out
           have HM6 : Hid (((l.take (i + 1)).filter fun v => inT F (u ++ [0]) false v.t).length = m) := by
            show _ = _
            rw [hsn.out, if_neg HT.out]
            exact HM.out
           clear hsn HM c0 c1 c2
           go_wp2_with fail
           go_roundg (n - (i + 1))
           case measure => omega
           case rel => exact ⟨i + 1, B, m, d, by omega, Nat.le_refl _, by go_num, rfl, by omega, hmd, HM6, HO6, HB8⟩
          | false =>
           have v5 : decide (0 <= z1) = true := decide_eq_true (by rw [<- HZ1.out]; have : ¬ Vals.cmpT xt F < 0 := (fun h => by have := (cmpT_neg_iff xt F).1 h; rw [hlf] at this; cases this); omega)
           have HLF := Lib.hid hlf
           clear hlf
           obtain ⟨z2, hz2⟩ : ∃ z, Vals.cmpT xt (u ++ [0]) = z := ⟨_, rfl⟩
           have HZ2 := Lib.hid hz2
           clear hz2
           go_wp2_with fail
           refine (textG_at xt (u ++ [0]) (by omega) (by omega) w7).mono ?_
           rintro e w8 ⟨rfl, hg8⟩
           rw [HZ2.out]
           have hgb := hg8.below
           have HO8 := Lib.hid (OwnK.below HO7.out hgb)
           have HB8 := Lib.hid (below_next HB7.out (Nat.le_refl _) hgb)
           replace c0 := (hgb.cell (p := ⟨g, off + i * 3, none⟩) hgx7).trans c0
           replace c1 := (hgb.cell (p := ⟨g, off + i * 3 + 1, none⟩) hgx7).trans c1
           replace c2 := (hgb.cell (p := ⟨g, off + i * 3 + 2, none⟩) hgx7).trans c2
           have hgx8 : g < w8.heap.size := Nat.lt_of_lt_of_le hgx7 hgb.size
           clear hgb hg8
           by_cases hlt2 : bytesLess xt (u ++ [0]) = true
           ·have v6 : decide (z2 < 0) = true := decide_eq_true (by rw [<- HZ2.out]; exact (cmpT_neg_iff _ _).2 hlt2)
            have HT : Hid (inT F (u ++ [0]) false xt = true) := by show _ = _; unfold inT; rw [HLF.out, hlt2]; rfl
            clear hlt2 v5
            have hrx := rdk_one layV w8 ⟨xk, xi, xt⟩ 24 #[.int .i64 xk, .int .i64 xi, .string ⟨xt.toArray⟩] rfl
            have hbb : Below w8.heap.size w8 (w8.alloc (.cells #[.int .i64 xk, .int .i64 xi, .string ⟨xt.toArray⟩] 24)) := (Below.refl _ _).alloc (Nat.le_refl _) _
            have hO1 := OwnK.below HO8.out hbb
            have hB1 := below_next HB8.out (Nat.le_refl _) hbb
            have hs1 := hB1.size
            obtain ⟨lk, hlk⟩ : ∃ lk, ((l.take i).filter fun v => inT F (u ++ [0]) false v.t) = lk := ⟨_, rfl⟩
            have HLK := Lib.hid hlk
            rw [hlk] at hO1 HM
            clear hlk hbb
            go_wp2_with (at_builtin; refine wpList_append_k layV (by rfl) (.tmp 83) (.tmp 88) 27 underV rfl w3.heap.size _ lk (by rfl) hO1 _ [⟨xk, xi, xt⟩] 1 1 (by rfl) hrx rfl (by rw [maxLen_num, HM.out]; omega) (by show (lk.length + 1) * 32 <= _; rw [HM.out]; omega) hs1 ?_; intro v6 w6 ho6 hB6' hg6' hl6'; have hlen : (lk ++ [(⟨xk, xi, xt⟩ : Val)]).length = m + 1 := (by rw [List.length_append, HM.out]; rfl); obtain ⟨A9, c9, hv9, hc9, hr9⟩ := OwnK.form ho6 hlen; subst hv9)
            have HB6 := Lib.hid (hB6' w3 hB1)
            have HO6 : Hid (OwnW w6 w3.heap.size (.slice A9 (m + 1) c9) ((l.take (i + 1)).filter fun v => inT F (u ++ [0]) false v.t)) := by
             show OwnK _ _ _ _ _
             rw [hsn.out, if_pos HT.out, HLK.out]
             exact ho6
            have HM6 : Hid (((l.take (i + 1)).filter fun v => inT F (u ++ [0]) false v.t).length = m + 1) := by
             show _ = _
             rw [hsn.out, if_pos HT.out, HLK.out]
             exact hlen
            clear hB6' hg6' hl6' ho6 hlen hr9 hrx hO1 hB1 hs1 c0 c1 c2 hsn HM
            go_wp2_with fail
            go_roundg (n - (i + 1))
            case measure => omega
            case rel => exact ⟨i + 1, A9, m + 1, c9, by omega, Nat.le_refl _, by go_num, rfl, by omega, hc9, HM6, HO6, HB6⟩
           ·have v6 : decide (z2 < 0) = false := decide_eq_false (by rw [<- HZ2.out]; exact fun h => hlt2 ((cmpT_neg_iff _ _).1 h))
            have HT : Hid (¬ inT F (u ++ [0]) false xt = true) := fun h => hlt2 (by unfold inT at h; rw [HLF.out] at h; simpa using h)
            clear hlt2 v5
            have HO6 : Hid (OwnW w8 w3.heap.size (.slice B m d) ((l.take (i + 1)).filter fun v => inT F (u ++ [0]) false v.t)) := by
             show OwnK _ _ _ _ _
             rw [hsn.out, if_neg HT.out]
             exact HO8.out
            have HM6 : Hid (((l.take (i + 1)).filter fun v => inT F (u ++ [0]) false v.t).length = m) := by
             show _ = _
             rw [hsn.out, if_neg HT.out]
             exact HM.out
            clear hsn HM c0 c1 c2
            go_wp2_with fail
            go_roundg (n - (i + 1))
            case measure => omega
            case rel => exact ⟨i + 1, B, m, d, by omega, Nat.le_refl _, by go_num, rfl, by omega, hmd, HM6, HO6, HB8⟩
         ·have hin3 : i = n := by omega
          subst hin3
          have hO := HO.out
          have hMM := HM.out
          rw [List.take_of_length_le (by rw [HN.out]; exact Nat.le_refl _)] at hO hMM
          obtain ⟨_, _, e1, _, hrd⟩ := OwnK.rd hO
          injection e1 with e1 e2 e3
          subst e1
          have HRD := Lib.hid hrd
          have HMM := Lib.hid hMM
          have HTL : Hid (∀ v ∈ (l.filter fun v => inT F (u ++ [0]) false v.t), v.t.length <= 1000) := fun v hv => by
           have := (HLL.out v (List.mem_filter.1 hv).1).2.2
           omega
          have HY4 := Lib.hid (Blk.below HY3.out HBz.out hs3)
          clear hO hMM hrd e2 e3 HO HM HBz
          go_wp2_with fail
          refine (rise_at B (l.filter fun v => inT F (u ++ [0]) false v.t) m d HMM.out (by omega) HTL.out wr HRD.out).mono ?_
          rintro e w5 ⟨out, A7, n7, c7, rfl, hrs, hl7, hnm, hc7, ho7, hb7⟩
          have HP : Hid (IsTexts frm to_ false l ⟨2, 0, 0, F, (u ++ [0]), false, out⟩) := by
           show IsTexts _ _ _ _ _
           rw [<- HF.out]
           refine texts_mk HA.out (by rw [HF.out]; exact HIN.out) (fun h => ⟨HE.out, HEB.out⟩) (moved_short (fun v hv => (HLL.out v hv).2.2) HSF.out HA.out) (fun h => by cases h) (fun h => ⟨moved_short' (fun v hv => (HLL.out v hv).2.2) (by rw [<- HE.out]; exact HST.out) HEB.out, by rw [HF.out]; exact HLE.out, HC.out⟩) HLL.out (fun v => ?_) ?_
           ·rw [hrs.2 v, List.mem_filter, HF.out]
            unfold inT
            simp only [Bool.and_eq_true, Bool.or_eq_true, Bool.not_eq_true']
           ·exact riseT_of hrs.1 fun v hv => by
             have := HLL.out v (List.mem_filter.1 ((hrs.2 v).1 hv)).1
             exact ⟨this.1, this.2.1⟩
          have hY5 := Blk.below HY4.out hb7 HY4.out.lt
          have hB5 := below_next HBw.out (Nat.le_refl _) hb7
          have hwr : w.heap.size < wr.heap.size := HY4.out.lt
          obtain ⟨u0, u1, u2, u3, u4, u5, u6, q0, q1, q2, q3, q4, q5, q6⟩ := blk7 hY5
          have hlY := hY5.lt
          have HL7 := Lib.hid hl7
          clear hrs hb7 hl7
          go_wp2_with fail
          refine bodyPost_ret (v := spF 2 0 0 F (u ++ [0]) false A7 n7 c7) (by simp [results, Try.results28, go_sem, u0, u1, u2, u3, u4, u5, u6]) rfl ?_
          exact ⟨⟨2, 0, 0, F, (u ++ [0]), false, out⟩, HP.out, by show out.length <= _; have := HL7.out; omega, A7, n7, c7, rfl, HL7.out, hc7, (OwnK.put7 ho7 (by omega) _ _ _ _ _ _ _).less (by omega), below_put7 hB5 (Nat.le_refl _) _ _ _ _ _ _ _⟩
     ·have HC : Hid (∀ v, u ++ [x] = v ++ [0] -> (⟨2, 0, v⟩ : Val) ∉ l) := fun v h => by
       have := List.append_inj_right' h rfl
       simp at this
       exact absurd this hx0
      have hxz : (((x.toNat : Nat) : Int) == 0) = false := by
       have : x.toNat ≠ 0 := fun e => hx0 (UInt8.toNat_inj.1 (by simpa using e))
       simpa using this
      clear hx0
      obtain ⟨z0, hz0⟩ : ∃ z, Vals.cmpT F (u ++ [x]) = z := ⟨_, rfl⟩
      have HZ0 := Lib.hid hz0
      clear hz0
      go_wp2_with fail
      refine (textG_at F (u ++ [x]) (by omega) (by omega) wy).mono ?_
      rintro e w3 ⟨rfl, hg3⟩
      rw [HZ0.out]
      have HY3 := Lib.hid (Blk.below HY.out hg3.below HY.out.lt)
      have HB3 := Lib.hid (below_next HB.out (Nat.le_refl _) hg3.below)
      clear hg3 HY HB
      cases hlf : bytesLess F (u ++ [x]) with
      | false =>
       have v5 : decide (0 <= z0) = true := decide_eq_true (by rw [<- HZ0.out]; have : ¬ Vals.cmpT F (u ++ [x]) < 0 := (fun h => by have := (cmpT_neg_iff F (u ++ [x])).1 h; rw [hlf] at this; cases this); omega)
       have HFN : Hid (IsTexts frm to_ false l none_) := by
        show IsTexts _ _ _ _ _
        rw [HE.out]
        exact texts_none HA.out HEB.out (by rw [HF.out]; exact hlf)
       clear hlf
       obtain ⟨u0, u1, u2, u3, u4, u5, u6, q0, q1, q2, q3, q4, q5, q6⟩ := blk7 HY3.out
       have hlY := HY3.out.lt
       go_wp2_with fail
       refine bodyPost_ret (v := spF 0 0 0 [] [] false none 0 0) (by simp [results, Try.results28, go_sem, u0, u1, u2, u3, u4, u5, u6]) rfl ?_
       exact ⟨none_, HFN.out, Nat.zero_le _, none, 0, 0, rfl, rfl, Nat.le_refl _, OwnK.none_ _ _, below_put7 HB3.out (Nat.le_refl _) _ _ _ _ _ _ _⟩
      | true =>
       have v5 : decide (0 <= z0) = false := decide_eq_false (by rw [<- HZ0.out]; have := (cmpT_neg_iff F (u ++ [x])).2 hlf; omega)
       have HLE := Lib.hid hlf
       clear hlf
       go_wp2_with fail
       clear v5
       have hs3 : w.heap.size < w3.heap.size := HY3.out.lt
       go_loopg [9, 10] n (fun gg s9 s10 wz => ∃ (i : Nat) (B : Option Addr) (m d : Nat), i <= n /\ n - i <= gg /\ s10 = .int .i64 (i : Int) /\ s9 = .slice B m d /\ m <= i /\ m <= d /\ Hid (((l.take i).filter fun v => inT F (u ++ [x]) false v.t).length = m) /\ Hid (OwnW wz w3.heap.size (.slice B m d) ((l.take i).filter fun v => inT F (u ++ [x]) false v.t)) /\ Hid (Below w3.heap.size w3 wz))
       case atStart => exact ⟨0, none, 0, 0, Nat.zero_le _, by omega, rfl, rfl, Nat.le_refl _, Nat.le_refl _, by show _ = _; simp, by show OwnK _ _ _ _ _; simpa using OwnK.none_ (L := layV) _ _, Below.refl _ _⟩
       case round =>
        obtain ⟨i, B, m, d, hi1, hgg3, rfl, rfl, hmi, hmd, HM, HO, HBz⟩ := hrel
        have HBw := Lib.hid (below_next HB3.out (Nat.le_refl _) HBz.out)
        by_cases hlt : i < n
        ·have hi' : i < l.length := by rw [HN.out]; exact hlt
         obtain ⟨g, off, rfl, hgx, c0, c1, c2⟩ := RdW.at3 (RdK.below HR.out HBw.out) hi'
         have hxl := (HLL.out _ (List.getElem_mem hi')).2.2
         obtain ⟨x, hx⟩ : ∃ x, l[i] = x := ⟨_, rfl⟩
         have HX := Lib.hid hx
         rw [hx] at c0 c1 c2 hxl
         clear hx
         obtain ⟨xk, xi, xt⟩ := x
         dsimp only at c0 c1 c2 hxl
         have hw5 : (i : Int) < (n : Int) := by omega
         have hsn : Hid (((l.take (i + 1)).filter fun v => inT F (u ++ [x]) false v.t) = if inT F (u ++ [x]) false xt = true then ((l.take i).filter fun v => inT F (u ++ [x]) false v.t) ++ [⟨xk, xi, xt⟩] else ((l.take i).filter fun v => inT F (u ++ [x]) false v.t)) := by
          show _ = _
          rw [List.take_succ_eq_append_getElem hi', HX.out, List.filter_append]
          by_cases h1 : inT F (u ++ [x]) false xt = true <;> simp [h1]
         obtain ⟨z1, hz1⟩ : ∃ z, Vals.cmpT xt F = z := ⟨_, rfl⟩
         have HZ1 := Lib.hid hz1
         clear hz1
         go_wp2_with fail
         refine (textG_at xt F (by omega) (by omega) wr).mono ?_
         rintro e w7 ⟨rfl, hg7⟩
         rw [HZ1.out]
         have HO7 := Lib.hid (OwnK.below HO.out hg7.below)
         have HB7 := Lib.hid (below_next HBz.out (Nat.le_refl _) hg7.below)
         replace c0 := (hg7.below.cell (p := ⟨g, off + i * 3, none⟩) hgx).trans c0
         replace c1 := (hg7.below.cell (p := ⟨g, off + i * 3 + 1, none⟩) hgx).trans c1
         replace c2 := (hg7.below.cell (p := ⟨g, off + i * 3 + 2, none⟩) hgx).trans c2
         have hgx7 : g < w7.heap.size := Nat.lt_of_lt_of_le hgx hg7.below.size
         clear hg7 HO HBz HBw
         cases hlf : bytesLess xt F with
         | true =>
          have v5 : decide (0 <= z1) = false := decide_eq_false (by rw [<- HZ1.out]; have := (cmpT_neg_iff xt F).2 hlf; omega)
          have HT : Hid (¬ inT F (u ++ [x]) false xt = true) := by show ¬ _; unfold inT; rw [hlf]; simp
          clear hlf
          have HO8 := HO7
          have HB8 := HB7
          obtain ⟨w8, rfl⟩ : ∃ w8 : World, w8 = w7 := ⟨_, rfl⟩
          have HO6 : Hid (OwnW w8 w3.heap.size (.slice B m d) ((l.take (i + 1)).filter fun v => inT F (u ++ [x]) false v.t)) := by
           show OwnK _ _ _ _ _
           rw [hsn.out, if_neg HT.out]
           exact HO8.out
          have HM6 : Hid (((l.take (i + 1)).filter fun v => inT F (u ++ [x]) false v.t).length = m) := by
           show _ = _
           rw [hsn.out, if_neg HT.out]
           exact HM.out
          clear hsn HM c0 c1 c2
          go_wp2_with fail
          go_roundg (n - (i + 1))
          case measure => omega
          case rel => exact ⟨i + 1, B, m, d, by omega, Nat.le_refl _, by go_num, rfl, by omega, hmd, HM6, HO6, HB8⟩
         | false =>
          have v5 : decide (0 <= z1) = true := decide_eq_true (by rw [<- HZ1.out]; have : ¬ Vals.cmpT xt F < 0 := (fun h => by have := (cmpT_neg_iff xt F).1 h; rw [hlf] at this; cases this); omega)
          have HLF := Lib.hid hlf
          clear hlf
          obtain ⟨z2, hz2⟩ : ∃ z, Vals.cmpT xt (u ++ [x]) = z := ⟨_, rfl⟩
          have HZ2 := Lib.hid hz2
          clear hz2
          go_wp2_with fail
          refine (textG_at xt (u ++ [x]) (by omega) (by omega) w7).mono ?_
          rintro e w8 ⟨rfl, hg8⟩
          rw [HZ2.out]
          have hgb := hg8.below
          have HO8 := Lib.hid (OwnK.below HO7.out hgb)
          have HB8 := Lib.hid (below_next HB7.out (Nat.le_refl _) hgb)
          replace c0 := (hgb.cell (p := ⟨g, off + i * 3, none⟩) hgx7).trans c0
          replace c1 := (hgb.cell (p := ⟨g, off + i * 3 + 1, none⟩) hgx7).trans c1
          replace c2 := (hgb.cell (p := ⟨g, off + i * 3 + 2, none⟩) hgx7).trans c2
          have hgx8 : g < w8.heap.size := Nat.lt_of_lt_of_le hgx7 hgb.size
          clear hgb hg8
          by_cases hlt2 : bytesLess xt (u ++ [x]) = true
          ·have v6 : decide (z2 < 0) = true := decide_eq_true (by rw [<- HZ2.out]; exact (cmpT_neg_iff _ _).2 hlt2)
           have HT : Hid (inT F (u ++ [x]) false xt = true) := by show _ = _; unfold inT; rw [HLF.out, hlt2]; rfl
           clear hlt2 v5
           have hrx := rdk_one layV w8 ⟨xk, xi, xt⟩ 24 #[.int .i64 xk, .int .i64 xi, .string ⟨xt.toArray⟩] rfl
           have hbb : Below w8.heap.size w8 (w8.alloc (.cells #[.int .i64 xk, .int .i64 xi, .string ⟨xt.toArray⟩] 24)) := (Below.refl _ _).alloc (Nat.le_refl _) _
           have hO1 := OwnK.below HO8.out hbb
           have hB1 := below_next HB8.out (Nat.le_refl _) hbb
           have hs1 := hB1.size
           obtain ⟨lk, hlk⟩ : ∃ lk, ((l.take i).filter fun v => inT F (u ++ [x]) false v.t) = lk := ⟨_, rfl⟩
           have HLK := Lib.hid hlk
           rw [hlk] at hO1 HM
           clear hlk hbb
           go_wp2_with (at_builtin; refine wpList_append_k layV (by rfl) (.tmp 83) (.tmp 88) 27 underV rfl w3.heap.size _ lk (by rfl) hO1 _ [⟨xk, xi, xt⟩] 1 1 (by rfl) hrx rfl (by rw [maxLen_num, HM.out]; omega) (by show (lk.length + 1) * 32 <= _; rw [HM.out]; omega) hs1 ?_; intro v6 w6 ho6 hB6' hg6' hl6'; have hlen : (lk ++ [(⟨xk, xi, xt⟩ : Val)]).length = m + 1 := (by rw [List.length_append, HM.out]; rfl); obtain ⟨A9, c9, hv9, hc9, hr9⟩ := OwnK.form ho6 hlen; subst hv9)
           have HB6 := Lib.hid (hB6' w3 hB1)
           have HO6 : Hid (OwnW w6 w3.heap.size (.slice A9 (m + 1) c9) ((l.take (i + 1)).filter fun v => inT F (u ++ [x]) false v.t)) := by
            show OwnK _ _ _ _ _
            rw [hsn.out, if_pos HT.out, HLK.out]
            exact ho6
           have HM6 : Hid (((l.take (i + 1)).filter fun v => inT F (u ++ [x]) false v.t).length = m + 1) := by
            show _ = _
            rw [hsn.out, if_pos HT.out, HLK.out]
            exact hlen
           clear hB6' hg6' hl6' ho6 hlen hr9 hrx hO1 hB1 hs1 c0 c1 c2 hsn HM
           go_wp2_with fail
           go_roundg (n - (i + 1))
           case measure => omega
           case rel => exact ⟨i + 1, A9, m + 1, c9, by omega, Nat.le_refl _, by go_num, rfl, by omega, hc9, HM6, HO6, HB6⟩
          ·have v6 : decide (z2 < 0) = false := decide_eq_false (by rw [<- HZ2.out]; exact fun h => hlt2 ((cmpT_neg_iff _ _).1 h))
           have HT : Hid (¬ inT F (u ++ [x]) false xt = true) := fun h => hlt2 (by unfold inT at h; rw [HLF.out] at h; simpa using h)
           clear hlt2 v5
           have HO6 : Hid (OwnW w8 w3.heap.size (.slice B m d) ((l.take (i + 1)).filter fun v => inT F (u ++ [x]) false v.t)) := by
            show OwnK _ _ _ _ _
            rw [hsn.out, if_neg HT.out]
            exact HO8.out
           have HM6 : Hid (((l.take (i + 1)).filter fun v => inT F (u ++ [x]) false v.t).length = m) := by
            show _ = _
            rw [hsn.out, if_neg HT.out]
            exact HM.out
           clear hsn HM c0 c1 c2
           go_wp2_with fail
           go_roundg (n - (i + 1))
           case measure => omega
           case rel => exact ⟨i + 1, B, m, d, by omega, Nat.le_refl _, by go_num, rfl, by omega, hmd, HM6, HO6, HB8⟩
        ·have hin3 : i = n := by omega
         subst hin3
         have hO := HO.out
         have hMM := HM.out
         rw [List.take_of_length_le (by rw [HN.out]; exact Nat.le_refl _)] at hO hMM
         obtain ⟨_, _, e1, _, hrd⟩ := OwnK.rd hO
         injection e1 with e1 e2 e3
         subst e1
         have HRD := Lib.hid hrd
         have HMM := Lib.hid hMM
         have HTL : Hid (∀ v ∈ (l.filter fun v => inT F (u ++ [x]) false v.t), v.t.length <= 1000) := fun v hv => by
          have := (HLL.out v (List.mem_filter.1 hv).1).2.2
          omega
         have HY4 := Lib.hid (Blk.below HY3.out HBz.out hs3)
         clear hO hMM hrd e2 e3 HO HM HBz
         go_wp2_with fail
         refine (rise_at B (l.filter fun v => inT F (u ++ [x]) false v.t) m d HMM.out (by omega) HTL.out wr HRD.out).mono ?_
         rintro e w5 ⟨out, A7, n7, c7, rfl, hrs, hl7, hnm, hc7, ho7, hb7⟩
         have HP : Hid (IsTexts frm to_ false l ⟨2, 0, 0, F, (u ++ [x]), false, out⟩) := by
          show IsTexts _ _ _ _ _
          rw [<- HF.out]
          refine texts_mk HA.out (by rw [HF.out]; exact HIN.out) (fun h => ⟨HE.out, HEB.out⟩) (moved_short (fun v hv => (HLL.out v hv).2.2) HSF.out HA.out) (fun h => by cases h) (fun h => ⟨moved_short' (fun v hv => (HLL.out v hv).2.2) (by rw [<- HE.out]; exact HST.out) HEB.out, by rw [HF.out]; exact HLE.out, HC.out⟩) HLL.out (fun v => ?_) ?_
          ·rw [hrs.2 v, List.mem_filter, HF.out]
           unfold inT
           simp only [Bool.and_eq_true, Bool.or_eq_true, Bool.not_eq_true']
          ·exact riseT_of hrs.1 fun v hv => by
            have := HLL.out v (List.mem_filter.1 ((hrs.2 v).1 hv)).1
            exact ⟨this.1, this.2.1⟩
         have hY5 := Blk.below HY4.out hb7 HY4.out.lt
         have hB5 := below_next HBw.out (Nat.le_refl _) hb7
         have hwr : w.heap.size < wr.heap.size := HY4.out.lt
         obtain ⟨u0, u1, u2, u3, u4, u5, u6, q0, q1, q2, q3, q4, q5, q6⟩ := blk7 hY5
         have hlY := hY5.lt
         have HL7 := Lib.hid hl7
         clear hrs hb7 hl7
         go_wp2_with fail
         refine bodyPost_ret (v := spF 2 0 0 F (u ++ [x]) false A7 n7 c7) (by simp [results, Try.results28, go_sem, u0, u1, u2, u3, u4, u5, u6]) rfl ?_
         exact ⟨⟨2, 0, 0, F, (u ++ [x]), false, out⟩, HP.out, by show out.length <= _; have := HL7.out; omega, A7, n7, c7, rfl, HL7.out, hc7, (OwnK.put7 ho7 (by omega) _ _ _ _ _ _ _).less (by omega), below_put7 hB5 (Nat.le_refl _) _ _ _ _ _ _ _⟩
end Go.Proofs.Ytoffnfooeojhnaa
namespace Go.Proofs.Ytoffnfooeojhnaa
open Go.RowKit Go.Sort Spans Op
set_option maxRecDepth 100000 in
theorem rwhole_1 (w : World) : Calls Try.prog 60 #[.int .i64 1] w fun e w' => e = .returned (spF 1 (-9223372036854775808) 9223372036854775807 [] [] false none 0 0) /\ Grown w w' := by
 go_enter Try.func60, Try.ntmps60
 go_wp2_with fail
 refine bodyPost_ret (v := spF 1 (-9223372036854775808) 9223372036854775807 [] [] false none 0 0) (by simp [results, Try.results60, go_sem]) rfl ?_
 exact ⟨rfl, gr1 _ _⟩
set_option maxRecDepth 100000 in
theorem rwhole_3 (w : World) : Calls Try.prog 60 #[.int .i64 3] w fun e w' => e = .returned (spF 3 0 1 [] [] false none 0 0) /\ Grown w w' := by
 go_enter Try.func60, Try.ntmps60
 go_wp2_with fail
 refine bodyPost_ret (v := spF 3 0 1 [] [] false none 0 0) (by simp [results, Try.results60, go_sem]) rfl ?_
 exact ⟨rfl, gr1 _ _⟩
set_option maxRecDepth 100000 in
set_option maxHeartbeats 2000000 in
theorem rnum_1_1 (n : List UInt8) (i : Int) (hr : rightP ⟨n, 1, 1, i, []⟩ = true) (w : World) : Calls Try.prog 45 #[.agg #[.string ⟨n.toArray⟩, .int .i64 1, .int .i64 1, .int .i64 i, .string ⟨#[]⟩]] w (GivesS w (IsOf ⟨n, 1, 1, i, []⟩) 1) := by
 have hnb := num_bd (rightP_side hr (show (1 : Int) ≠ 8 by decide)) (.inl rfl)
 have h1 : (-9223372036854775808) <= i := hnb.1
 have h2 : i <= 9223372036854775807 := hnb.2
 have HR := Lib.hid hr
 have hP := Blk.alloc (Blk.new w 38 #[.string ⟨n.toArray⟩, .int .i64 1, .int .i64 1, .int .i64 i, .string ⟨#[]⟩]) (.cells #[.int .i64 0, .int .i64 0, .int .i64 0, .string ⟨#[]⟩, .string ⟨#[]⟩, .bool false, .slice none 0 0] 29)
 have hY : Blk ((w.alloc (.cells #[.string ⟨n.toArray⟩, .int .i64 1, .int .i64 1, .int .i64 i, .string ⟨#[]⟩] 38)).alloc (.cells #[.int .i64 0, .int .i64 0, .int .i64 0, .string ⟨#[]⟩, .string ⟨#[]⟩, .bool false, .slice none 0 0] 29)) (w.heap.size + 1) 29 #[.int .i64 0, .int .i64 0, .int .i64 0, .string ⟨#[]⟩, .string ⟨#[]⟩, .bool false, .slice none 0 0] := by
  have := Blk.new (w.alloc (.cells #[.string ⟨n.toArray⟩, .int .i64 1, .int .i64 1, .int .i64 i, .string ⟨#[]⟩] 38)) 29 #[.int .i64 0, .int .i64 0, .int .i64 0, .string ⟨#[]⟩, .string ⟨#[]⟩, .bool false, .slice none 0 0]
  rwa [show (w.alloc (.cells #[.string ⟨n.toArray⟩, .int .i64 1, .int .i64 1, .int .i64 i, .string ⟨#[]⟩] 38)).heap.size = w.heap.size + 1 by simp] at this
 have hg0 := gr2 w (.cells #[.string ⟨n.toArray⟩, .int .i64 1, .int .i64 1, .int .i64 i, .string ⟨#[]⟩] 38) (.cells #[.int .i64 0, .int .i64 0, .int .i64 0, .string ⟨#[]⟩, .string ⟨#[]⟩, .bool false, .slice none 0 0] 29)
 obtain ⟨p0, p1, p2, p3, p4, _⟩ := blk5 hP
 clear hr hnb
 go_enter Try.func45, Try.ntmps45
 go_wp2_with fail
 clear p0 p1 p2 p3 p4
 generalize ((w.alloc (.cells #[.string ⟨n.toArray⟩, .int .i64 1, .int .i64 1, .int .i64 i, .string ⟨#[]⟩] 38)).alloc (.cells #[.int .i64 0, .int .i64 0, .int .i64 0, .string ⟨#[]⟩, .string ⟨#[]⟩, .bool false, .slice none 0 0] 29)) = w0 at *
 refine (rwhole_1 w0).mono ?_
 rintro e w1 ⟨rfl, hg1⟩
 have hP1 := Blk.alloc (Blk.below hP hg1.below hP.lt) (.cells #[.int .i64 1, .int .i64 (-9223372036854775808), .int .i64 9223372036854775807, .string ⟨#[]⟩, .string ⟨#[]⟩, .bool false, .slice none 0 0] 29)
 have hY1 := Blk.alloc (Blk.below hY hg1.below hY.lt) (.cells #[.int .i64 1, .int .i64 (-9223372036854775808), .int .i64 9223372036854775807, .string ⟨#[]⟩, .string ⟨#[]⟩, .bool false, .slice none 0 0] 29)
 have hYw := Blk.below hY hg1.below hY.lt
 have hBw := (hg0.trans hg1).below
 have hW1 := Blk.new w1 29 #[.int .i64 1, .int .i64 (-9223372036854775808), .int .i64 9223372036854775807, .string ⟨#[]⟩, .string ⟨#[]⟩, .bool false, .slice none 0 0]
 have hB1 := ((hg0.trans hg1).alloc (.cells #[.int .i64 1, .int .i64 (-9223372036854775808), .int .i64 9223372036854775807, .string ⟨#[]⟩, .string ⟨#[]⟩, .bool false, .slice none 0 0] 29)).below
 have hl1 : w.heap.size + 1 < w1.heap.size := (Blk.below hY hg1.below hY.lt).lt
 obtain ⟨p0, p1, p2, p3, p4, _⟩ := blk5 hP1
 obtain ⟨y0, y1, y2, y3, y4, y5, y6, _⟩ := blk7 hW1
 have hlw : w1.heap.size < (w1.alloc (.cells #[.int .i64 1, .int .i64 (-9223372036854775808), .int .i64 9223372036854775807, .string ⟨#[]⟩, .string ⟨#[]⟩, .bool false, .slice none 0 0] 29)).heap.size := hW1.lt
 clear hg0 hg1 hP hY hP1 hW1
 have hY2 := hY1
 have hB2 := hB1
 go_wp2_with fail
 clear p0 p1 p2 p3 p4 y0 y1 y2 y3 y4 y5 y6
 refine (rints_at 1 i i none [] 0 0 (by decide) (h1) (h2) rfl (by decide) (fun v hv => by cases hv) _ (.inl rfl)).mono ?_
 rintro e w3 ⟨⟨rK, rlo, rhi, rf, rt, ro, rno⟩, hin, hrl, A7, n7, c7, rfl, hl7, hc7, ho7, hb7⟩
 dsimp only at hrl hl7 ho7
 have HP : Hid (IsOf ⟨n, 1, 1, i, []⟩ ⟨rK, rlo, rhi, rf, rt, ro, rno⟩) := of_N HR.out (.inl rfl) hin
 have hY3 := Blk.below hY2 hb7 hY2.lt
 have hB3 := below_next hB2 (Nat.le_refl _) hb7
 obtain ⟨u0, u1, u2, u3, u4, u5, u6, q0, q1, q2, q3, q4, q5, q6⟩ := blk7 hY3
 have hlY := hY3.lt
 have hlZ := hY2.lt
 have HL7 := Lib.hid hl7
 clear hin hb7 hl7
 go_wp2_with fail
 refine bodyPost_ret (v := spF rK rlo rhi rf rt ro A7 n7 c7) (by simp [results, Try.results45, go_sem, u0, u1, u2, u3, u4, u5, u6]) rfl ?_
 exact ⟨⟨rK, rlo, rhi, rf, rt, ro, rno⟩, HP.out, by show rno.length <= 1; have := HL7.out; omega, A7, n7, c7, rfl, HL7.out, hc7, (OwnK.put7 ho7 (by omega) _ _ _ _ _ _ _).less (by omega), below_put7 hB3 (by omega) _ _ _ _ _ _ _⟩
set_option maxRecDepth 100000 in
set_option maxHeartbeats 2000000 in
theorem rnum_2_1 (n : List UInt8) (i : Int) (hr : rightP ⟨n, 2, 1, i, []⟩ = true) (w : World) : Calls Try.prog 45 #[.agg #[.string ⟨n.toArray⟩, .int .i64 2, .int .i64 1, .int .i64 i, .string ⟨#[]⟩]] w (GivesS w (IsOf ⟨n, 2, 1, i, []⟩) 1) := by
 have hnb := num_bd (rightP_side hr (show (2 : Int) ≠ 8 by decide)) (.inl rfl)
 have h1 : (-9223372036854775808) <= i := hnb.1
 have h2 : i <= 9223372036854775807 := hnb.2
 have HR := Lib.hid hr
 have hP := Blk.alloc (Blk.new w 38 #[.string ⟨n.toArray⟩, .int .i64 2, .int .i64 1, .int .i64 i, .string ⟨#[]⟩]) (.cells #[.int .i64 0, .int .i64 0, .int .i64 0, .string ⟨#[]⟩, .string ⟨#[]⟩, .bool false, .slice none 0 0] 29)
 have hY : Blk ((w.alloc (.cells #[.string ⟨n.toArray⟩, .int .i64 2, .int .i64 1, .int .i64 i, .string ⟨#[]⟩] 38)).alloc (.cells #[.int .i64 0, .int .i64 0, .int .i64 0, .string ⟨#[]⟩, .string ⟨#[]⟩, .bool false, .slice none 0 0] 29)) (w.heap.size + 1) 29 #[.int .i64 0, .int .i64 0, .int .i64 0, .string ⟨#[]⟩, .string ⟨#[]⟩, .bool false, .slice none 0 0] := by
  have := Blk.new (w.alloc (.cells #[.string ⟨n.toArray⟩, .int .i64 2, .int .i64 1, .int .i64 i, .string ⟨#[]⟩] 38)) 29 #[.int .i64 0, .int .i64 0, .int .i64 0, .string ⟨#[]⟩, .string ⟨#[]⟩, .bool false, .slice none 0 0]
  rwa [show (w.alloc (.cells #[.string ⟨n.toArray⟩, .int .i64 2, .int .i64 1, .int .i64 i, .string ⟨#[]⟩] 38)).heap.size = w.heap.size + 1 by simp] at this
 have hg0 := gr2 w (.cells #[.string ⟨n.toArray⟩, .int .i64 2, .int .i64 1, .int .i64 i, .string ⟨#[]⟩] 38) (.cells #[.int .i64 0, .int .i64 0, .int .i64 0, .string ⟨#[]⟩, .string ⟨#[]⟩, .bool false, .slice none 0 0] 29)
 obtain ⟨p0, p1, p2, p3, p4, _⟩ := blk5 hP
 clear hr hnb
 go_enter Try.func45, Try.ntmps45
 go_wp2_with fail
 clear p0 p1 p2 p3 p4
 generalize ((w.alloc (.cells #[.string ⟨n.toArray⟩, .int .i64 2, .int .i64 1, .int .i64 i, .string ⟨#[]⟩] 38)).alloc (.cells #[.int .i64 0, .int .i64 0, .int .i64 0, .string ⟨#[]⟩, .string ⟨#[]⟩, .bool false, .slice none 0 0] 29)) = w0 at *
 refine (rwhole_1 w0).mono ?_
 rintro e w1 ⟨rfl, hg1⟩
 have hP1 := Blk.alloc (Blk.below hP hg1.below hP.lt) (.cells #[.int .i64 1, .int .i64 (-9223372036854775808), .int .i64 9223372036854775807, .string ⟨#[]⟩, .string ⟨#[]⟩, .bool false, .slice none 0 0] 29)
 have hY1 := Blk.alloc (Blk.below hY hg1.below hY.lt) (.cells #[.int .i64 1, .int .i64 (-9223372036854775808), .int .i64 9223372036854775807, .string ⟨#[]⟩, .string ⟨#[]⟩, .bool false, .slice none 0 0] 29)
 have hYw := Blk.below hY hg1.below hY.lt
 have hBw := (hg0.trans hg1).below
 have hW1 := Blk.new w1 29 #[.int .i64 1, .int .i64 (-9223372036854775808), .int .i64 9223372036854775807, .string ⟨#[]⟩, .string ⟨#[]⟩, .bool false, .slice none 0 0]
 have hB1 := ((hg0.trans hg1).alloc (.cells #[.int .i64 1, .int .i64 (-9223372036854775808), .int .i64 9223372036854775807, .string ⟨#[]⟩, .string ⟨#[]⟩, .bool false, .slice none 0 0] 29)).below
 have hl1 : w.heap.size + 1 < w1.heap.size := (Blk.below hY hg1.below hY.lt).lt
 obtain ⟨p0, p1, p2, p3, p4, _⟩ := blk5 hP1
 obtain ⟨y0, y1, y2, y3, y4, y5, y6, _⟩ := blk7 hW1
 have hlw : w1.heap.size < (w1.alloc (.cells #[.int .i64 1, .int .i64 (-9223372036854775808), .int .i64 9223372036854775807, .string ⟨#[]⟩, .string ⟨#[]⟩, .bool false, .slice none 0 0] 29)).heap.size := hW1.lt
 clear hg0 hg1 hP hY hP1 hW1
 have hrx := rdk_one layV (w1.alloc (.cells #[.int .i64 1, .int .i64 (-9223372036854775808), .int .i64 9223372036854775807, .string ⟨#[]⟩, .string ⟨#[]⟩, .bool false, .slice none 0 0] 29)) ⟨1, i, []⟩ 24 #[.int .i64 1, .int .i64 i, .string ⟨#[]⟩] rfl
 have hsx : (w1.alloc (.cells #[.int .i64 1, .int .i64 (-9223372036854775808), .int .i64 9223372036854775807, .string ⟨#[]⟩, .string ⟨#[]⟩, .bool false, .slice none 0 0] 29)).heap.size = w1.heap.size + 1 := by simp
 rw [hsx] at hrx
 have hY2 := Blk.alloc hY1 (.cells #[.int .i64 1, .int .i64 i, .string ⟨#[]⟩] 24)
 have hB2 := hB1.alloc hB1.size (.cells #[.int .i64 1, .int .i64 i, .string ⟨#[]⟩] 24)
 go_wp2_with fail
 clear p0 p1 p2 p3 p4 y0 y1 y2 y3 y4 y5 y6
 refine (rints_at 1 (-9223372036854775808) 9223372036854775807 (some ⟨w1.heap.size + 1, 0, none⟩) [⟨1, i, []⟩] 1 1 (by decide) (by decide) (by decide) rfl (by decide) (fun v hv => by simp at hv; subst hv; exact ⟨rfl, rfl⟩) _ hrx).mono ?_
 rintro e w3 ⟨⟨rK, rlo, rhi, rf, rt, ro, rno⟩, hin, hrl, A7, n7, c7, rfl, hl7, hc7, ho7, hb7⟩
 dsimp only at hrl hl7 ho7
 have HP : Hid (IsOf ⟨n, 2, 1, i, []⟩ ⟨rK, rlo, rhi, rf, rt, ro, rno⟩) := of_N HR.out (.inl rfl) hin
 have hY3 := Blk.below hY2 hb7 hY2.lt
 have hB3 := below_next hB2 (Nat.le_refl _) hb7
 obtain ⟨u0, u1, u2, u3, u4, u5, u6, q0, q1, q2, q3, q4, q5, q6⟩ := blk7 hY3
 have hlY := hY3.lt
 have hlZ := hY2.lt
 have HL7 := Lib.hid hl7
 clear hin hb7 hl7
 go_wp2_with fail
 refine bodyPost_ret (v := spF rK rlo rhi rf rt ro A7 n7 c7) (by simp [results, Try.results45, go_sem, u0, u1, u2, u3, u4, u5, u6]) rfl ?_
 exact ⟨⟨rK, rlo, rhi, rf, rt, ro, rno⟩, HP.out, by show rno.length <= 1; have := HL7.out; omega, A7, n7, c7, rfl, HL7.out, hc7, (OwnK.put7 ho7 (by omega) _ _ _ _ _ _ _).less (by omega), below_put7 hB3 (by omega) _ _ _ _ _ _ _⟩
set_option maxRecDepth 100000 in
set_option maxHeartbeats 2000000 in
theorem rnum_3_1 (n : List UInt8) (i : Int) (hr : rightP ⟨n, 3, 1, i, []⟩ = true) (w : World) : Calls Try.prog 45 #[.agg #[.string ⟨n.toArray⟩, .int .i64 3, .int .i64 1, .int .i64 i, .string ⟨#[]⟩]] w (GivesS w (IsOf ⟨n, 3, 1, i, []⟩) 1) := by
 have hnb := num_bd (rightP_side hr (show (3 : Int) ≠ 8 by decide)) (.inl rfl)
 have h1 : (-9223372036854775808) <= i := hnb.1
 have h2 : i <= 9223372036854775807 := hnb.2
 have HR := Lib.hid hr
 have hP := Blk.alloc (Blk.new w 38 #[.string ⟨n.toArray⟩, .int .i64 3, .int .i64 1, .int .i64 i, .string ⟨#[]⟩]) (.cells #[.int .i64 0, .int .i64 0, .int .i64 0, .string ⟨#[]⟩, .string ⟨#[]⟩, .bool false, .slice none 0 0] 29)
 have hY : Blk ((w.alloc (.cells #[.string ⟨n.toArray⟩, .int .i64 3, .int .i64 1, .int .i64 i, .string ⟨#[]⟩] 38)).alloc (.cells #[.int .i64 0, .int .i64 0, .int .i64 0, .string ⟨#[]⟩, .string ⟨#[]⟩, .bool false, .slice none 0 0] 29)) (w.heap.size + 1) 29 #[.int .i64 0, .int .i64 0, .int .i64 0, .string ⟨#[]⟩, .string ⟨#[]⟩, .bool false, .slice none 0 0] := by
  have := Blk.new (w.alloc (.cells #[.string ⟨n.toArray⟩, .int .i64 3, .int .i64 1, .int .i64 i, .string ⟨#[]⟩] 38)) 29 #[.int .i64 0, .int .i64 0, .int .i64 0, .string ⟨#[]⟩, .string ⟨#[]⟩, .bool false, .slice none 0 0]
  rwa [show (w.alloc (.cells #[.string ⟨n.toArray⟩, .int .i64 3, .int .i64 1, .int .i64 i, .string ⟨#[]⟩] 38)).heap.size = w.heap.size + 1 by simp] at this
 have hg0 := gr2 w (.cells #[.string ⟨n.toArray⟩, .int .i64 3, .int .i64 1, .int .i64 i, .string ⟨#[]⟩] 38) (.cells #[.int .i64 0, .int .i64 0, .int .i64 0, .string ⟨#[]⟩, .string ⟨#[]⟩, .bool false, .slice none 0 0] 29)
 obtain ⟨p0, p1, p2, p3, p4, _⟩ := blk5 hP
 clear hr hnb
 go_enter Try.func45, Try.ntmps45
 go_wp2_with fail
 clear p0 p1 p2 p3 p4
 generalize ((w.alloc (.cells #[.string ⟨n.toArray⟩, .int .i64 3, .int .i64 1, .int .i64 i, .string ⟨#[]⟩] 38)).alloc (.cells #[.int .i64 0, .int .i64 0, .int .i64 0, .string ⟨#[]⟩, .string ⟨#[]⟩, .bool false, .slice none 0 0] 29)) = w0 at *
 refine (rwhole_1 w0).mono ?_
 rintro e w1 ⟨rfl, hg1⟩
 have hP1 := Blk.alloc (Blk.below hP hg1.below hP.lt) (.cells #[.int .i64 1, .int .i64 (-9223372036854775808), .int .i64 9223372036854775807, .string ⟨#[]⟩, .string ⟨#[]⟩, .bool false, .slice none 0 0] 29)
 have hY1 := Blk.alloc (Blk.below hY hg1.below hY.lt) (.cells #[.int .i64 1, .int .i64 (-9223372036854775808), .int .i64 9223372036854775807, .string ⟨#[]⟩, .string ⟨#[]⟩, .bool false, .slice none 0 0] 29)
 have hYw := Blk.below hY hg1.below hY.lt
 have hBw := (hg0.trans hg1).below
 have hW1 := Blk.new w1 29 #[.int .i64 1, .int .i64 (-9223372036854775808), .int .i64 9223372036854775807, .string ⟨#[]⟩, .string ⟨#[]⟩, .bool false, .slice none 0 0]
 have hB1 := ((hg0.trans hg1).alloc (.cells #[.int .i64 1, .int .i64 (-9223372036854775808), .int .i64 9223372036854775807, .string ⟨#[]⟩, .string ⟨#[]⟩, .bool false, .slice none 0 0] 29)).below
 have hl1 : w.heap.size + 1 < w1.heap.size := (Blk.below hY hg1.below hY.lt).lt
 obtain ⟨p0, p1, p2, p3, p4, _⟩ := blk5 hP1
 obtain ⟨y0, y1, y2, y3, y4, y5, y6, _⟩ := blk7 hW1
 have hlw : w1.heap.size < (w1.alloc (.cells #[.int .i64 1, .int .i64 (-9223372036854775808), .int .i64 9223372036854775807, .string ⟨#[]⟩, .string ⟨#[]⟩, .bool false, .slice none 0 0] 29)).heap.size := hW1.lt
 clear hg0 hg1 hP hY hP1 hW1
 by_cases he : i = (-9223372036854775808)
 ·subst he
  have HF : Hid (IsOf ⟨n, 3, 1, (-9223372036854775808), []⟩ none_) := of_N HR.out (.inl rfl) (show IsInts 1 (-9223372036854775808) ((-9223372036854775808) - 1) [] none_ from ints_none (by decide) fun x h3 h4 => by omega)
  clear h1 h2
  obtain ⟨u0, u1, u2, u3, u4, u5, u6, q0, q1, q2, q3, q4, q5, q6⟩ := blk7 hY1
  obtain ⟨t0, t1, t2, t3, t4, t5, t6, s0, s1, s2, s3, s4, s5, s6⟩ := blk7 hYw
  have hlY := hY1.lt
  have hne : w.heap.size + 1 ≠ w1.heap.size := by omega
  go_wp2_with fail
  refine bodyPost_ret (v := spF 0 0 0 [] [] false none 0 0) (by simp [results, Try.results45, go_sem, t0, t1, t2, t3, t4, t5, t6, hl1]) rfl ?_
  exact ⟨none_, HF.out, Nat.zero_le _, none, 0, 0, rfl, rfl, Nat.le_refl _, OwnK.none_ _ _, (below_put7 hBw (by omega) _ _ _ _ _ _ _).alloc (below_put7 hBw (by omega) _ _ _ _ _ _ _).size _⟩
 ·have v1 : (i == (-9223372036854775808)) = false := by simpa using he
  have h3 : (-9223372036854775808) <= i - 1 := by omega
  have h4 : i - 1 <= 9223372036854775807 := by omega
  clear he
  have hY2 := hY1
  have hB2 := hB1
  go_wp2_with fail
  clear p0 p1 p2 p3 p4 y0 y1 y2 y3 y4 y5 y6
  refine (rints_at 1 (-9223372036854775808) (i - 1) none [] 0 0 (by decide) (by decide) (h4) rfl (by decide) (fun v hv => by cases hv) _ (.inl rfl)).mono ?_
  rintro e w3 ⟨⟨rK, rlo, rhi, rf, rt, ro, rno⟩, hin, hrl, A7, n7, c7, rfl, hl7, hc7, ho7, hb7⟩
  dsimp only at hrl hl7 ho7
  have HP : Hid (IsOf ⟨n, 3, 1, i, []⟩ ⟨rK, rlo, rhi, rf, rt, ro, rno⟩) := of_N HR.out (.inl rfl) hin
  have hY3 := Blk.below hY2 hb7 hY2.lt
  have hB3 := below_next hB2 (Nat.le_refl _) hb7
  obtain ⟨u0, u1, u2, u3, u4, u5, u6, q0, q1, q2, q3, q4, q5, q6⟩ := blk7 hY3
  have hlY := hY3.lt
  have hlZ := hY2.lt
  have HL7 := Lib.hid hl7
  clear hin hb7 hl7
  go_wp2_with fail
  refine bodyPost_ret (v := spF rK rlo rhi rf rt ro A7 n7 c7) (by simp [results, Try.results45, go_sem, u0, u1, u2, u3, u4, u5, u6]) rfl ?_
  exact ⟨⟨rK, rlo, rhi, rf, rt, ro, rno⟩, HP.out, by show rno.length <= 1; have := HL7.out; omega, A7, n7, c7, rfl, HL7.out, hc7, (OwnK.put7 ho7 (by omega) _ _ _ _ _ _ _).less (by omega), below_put7 hB3 (by omega) _ _ _ _ _ _ _⟩
set_option maxRecDepth 100000 in
set_option maxHeartbeats 2000000 in
theorem rnum_4_1 (n : List UInt8) (i : Int) (hr : rightP ⟨n, 4, 1, i, []⟩ = true) (w : World) : Calls Try.prog 45 #[.agg #[.string ⟨n.toArray⟩, .int .i64 4, .int .i64 1, .int .i64 i, .string ⟨#[]⟩]] w (GivesS w (IsOf ⟨n, 4, 1, i, []⟩) 1) := by
 have hnb := num_bd (rightP_side hr (show (4 : Int) ≠ 8 by decide)) (.inl rfl)
 have h1 : (-9223372036854775808) <= i := hnb.1
 have h2 : i <= 9223372036854775807 := hnb.2
 have HR := Lib.hid hr
 have hP := Blk.alloc (Blk.new w 38 #[.string ⟨n.toArray⟩, .int .i64 4, .int .i64 1, .int .i64 i, .string ⟨#[]⟩]) (.cells #[.int .i64 0, .int .i64 0, .int .i64 0, .string ⟨#[]⟩, .string ⟨#[]⟩, .bool false, .slice none 0 0] 29)
 have hY : Blk ((w.alloc (.cells #[.string ⟨n.toArray⟩, .int .i64 4, .int .i64 1, .int .i64 i, .string ⟨#[]⟩] 38)).alloc (.cells #[.int .i64 0, .int .i64 0, .int .i64 0, .string ⟨#[]⟩, .string ⟨#[]⟩, .bool false, .slice none 0 0] 29)) (w.heap.size + 1) 29 #[.int .i64 0, .int .i64 0, .int .i64 0, .string ⟨#[]⟩, .string ⟨#[]⟩, .bool false, .slice none 0 0] := by
  have := Blk.new (w.alloc (.cells #[.string ⟨n.toArray⟩, .int .i64 4, .int .i64 1, .int .i64 i, .string ⟨#[]⟩] 38)) 29 #[.int .i64 0, .int .i64 0, .int .i64 0, .string ⟨#[]⟩, .string ⟨#[]⟩, .bool false, .slice none 0 0]
  rwa [show (w.alloc (.cells #[.string ⟨n.toArray⟩, .int .i64 4, .int .i64 1, .int .i64 i, .string ⟨#[]⟩] 38)).heap.size = w.heap.size + 1 by simp] at this
 have hg0 := gr2 w (.cells #[.string ⟨n.toArray⟩, .int .i64 4, .int .i64 1, .int .i64 i, .string ⟨#[]⟩] 38) (.cells #[.int .i64 0, .int .i64 0, .int .i64 0, .string ⟨#[]⟩, .string ⟨#[]⟩, .bool false, .slice none 0 0] 29)
 obtain ⟨p0, p1, p2, p3, p4, _⟩ := blk5 hP
 clear hr hnb
 go_enter Try.func45, Try.ntmps45
 go_wp2_with fail
 clear p0 p1 p2 p3 p4
 generalize ((w.alloc (.cells #[.string ⟨n.toArray⟩, .int .i64 4, .int .i64 1, .int .i64 i, .string ⟨#[]⟩] 38)).alloc (.cells #[.int .i64 0, .int .i64 0, .int .i64 0, .string ⟨#[]⟩, .string ⟨#[]⟩, .bool false, .slice none 0 0] 29)) = w0 at *
 refine (rwhole_1 w0).mono ?_
 rintro e w1 ⟨rfl, hg1⟩
 have hP1 := Blk.alloc (Blk.below hP hg1.below hP.lt) (.cells #[.int .i64 1, .int .i64 (-9223372036854775808), .int .i64 9223372036854775807, .string ⟨#[]⟩, .string ⟨#[]⟩, .bool false, .slice none 0 0] 29)
 have hY1 := Blk.alloc (Blk.below hY hg1.below hY.lt) (.cells #[.int .i64 1, .int .i64 (-9223372036854775808), .int .i64 9223372036854775807, .string ⟨#[]⟩, .string ⟨#[]⟩, .bool false, .slice none 0 0] 29)
 have hYw := Blk.below hY hg1.below hY.lt
 have hBw := (hg0.trans hg1).below
 have hW1 := Blk.new w1 29 #[.int .i64 1, .int .i64 (-9223372036854775808), .int .i64 9223372036854775807, .string ⟨#[]⟩, .string ⟨#[]⟩, .bool false, .slice none 0 0]
 have hB1 := ((hg0.trans hg1).alloc (.cells #[.int .i64 1, .int .i64 (-9223372036854775808), .int .i64 9223372036854775807, .string ⟨#[]⟩, .string ⟨#[]⟩, .bool false, .slice none 0 0] 29)).below
 have hl1 : w.heap.size + 1 < w1.heap.size := (Blk.below hY hg1.below hY.lt).lt
 obtain ⟨p0, p1, p2, p3, p4, _⟩ := blk5 hP1
 obtain ⟨y0, y1, y2, y3, y4, y5, y6, _⟩ := blk7 hW1
 have hlw : w1.heap.size < (w1.alloc (.cells #[.int .i64 1, .int .i64 (-9223372036854775808), .int .i64 9223372036854775807, .string ⟨#[]⟩, .string ⟨#[]⟩, .bool false, .slice none 0 0] 29)).heap.size := hW1.lt
 clear hg0 hg1 hP hY hP1 hW1
 have hY2 := hY1
 have hB2 := hB1
 go_wp2_with fail
 clear p0 p1 p2 p3 p4 y0 y1 y2 y3 y4 y5 y6
 refine (rints_at 1 (-9223372036854775808) i none [] 0 0 (by decide) (by decide) (h2) rfl (by decide) (fun v hv => by cases hv) _ (.inl rfl)).mono ?_
 rintro e w3 ⟨⟨rK, rlo, rhi, rf, rt, ro, rno⟩, hin, hrl, A7, n7, c7, rfl, hl7, hc7, ho7, hb7⟩
 dsimp only at hrl hl7 ho7
 have HP : Hid (IsOf ⟨n, 4, 1, i, []⟩ ⟨rK, rlo, rhi, rf, rt, ro, rno⟩) := of_N HR.out (.inl rfl) hin
 have hY3 := Blk.below hY2 hb7 hY2.lt
 have hB3 := below_next hB2 (Nat.le_refl _) hb7
 obtain ⟨u0, u1, u2, u3, u4, u5, u6, q0, q1, q2, q3, q4, q5, q6⟩ := blk7 hY3
 have hlY := hY3.lt
 have hlZ := hY2.lt
 have HL7 := Lib.hid hl7
 clear hin hb7 hl7
 go_wp2_with fail
 refine bodyPost_ret (v := spF rK rlo rhi rf rt ro A7 n7 c7) (by simp [results, Try.results45, go_sem, u0, u1, u2, u3, u4, u5, u6]) rfl ?_
 exact ⟨⟨rK, rlo, rhi, rf, rt, ro, rno⟩, HP.out, by show rno.length <= 1; have := HL7.out; omega, A7, n7, c7, rfl, HL7.out, hc7, (OwnK.put7 ho7 (by omega) _ _ _ _ _ _ _).less (by omega), below_put7 hB3 (by omega) _ _ _ _ _ _ _⟩
set_option maxRecDepth 100000 in
set_option maxHeartbeats 2000000 in
theorem rnum_5_1 (n : List UInt8) (i : Int) (hr : rightP ⟨n, 5, 1, i, []⟩ = true) (w : World) : Calls Try.prog 45 #[.agg #[.string ⟨n.toArray⟩, .int .i64 5, .int .i64 1, .int .i64 i, .string ⟨#[]⟩]] w (GivesS w (IsOf ⟨n, 5, 1, i, []⟩) 1) := by
 have hnb := num_bd (rightP_side hr (show (5 : Int) ≠ 8 by decide)) (.inl rfl)
 have h1 : (-9223372036854775808) <= i := hnb.1
 have h2 : i <= 9223372036854775807 := hnb.2
 have HR := Lib.hid hr
 have hP := Blk.alloc (Blk.new w 38 #[.string ⟨n.toArray⟩, .int .i64 5, .int .i64 1, .int .i64 i, .string ⟨#[]⟩]) (.cells #[.int .i64 0, .int .i64 0, .int .i64 0, .string ⟨#[]⟩, .string ⟨#[]⟩, .bool false, .slice none 0 0] 29)
 have hY : Blk ((w.alloc (.cells #[.string ⟨n.toArray⟩, .int .i64 5, .int .i64 1, .int .i64 i, .string ⟨#[]⟩] 38)).alloc (.cells #[.int .i64 0, .int .i64 0, .int .i64 0, .string ⟨#[]⟩, .string ⟨#[]⟩, .bool false, .slice none 0 0] 29)) (w.heap.size + 1) 29 #[.int .i64 0, .int .i64 0, .int .i64 0, .string ⟨#[]⟩, .string ⟨#[]⟩, .bool false, .slice none 0 0] := by
  have := Blk.new (w.alloc (.cells #[.string ⟨n.toArray⟩, .int .i64 5, .int .i64 1, .int .i64 i, .string ⟨#[]⟩] 38)) 29 #[.int .i64 0, .int .i64 0, .int .i64 0, .string ⟨#[]⟩, .string ⟨#[]⟩, .bool false, .slice none 0 0]
  rwa [show (w.alloc (.cells #[.string ⟨n.toArray⟩, .int .i64 5, .int .i64 1, .int .i64 i, .string ⟨#[]⟩] 38)).heap.size = w.heap.size + 1 by simp] at this
 have hg0 := gr2 w (.cells #[.string ⟨n.toArray⟩, .int .i64 5, .int .i64 1, .int .i64 i, .string ⟨#[]⟩] 38) (.cells #[.int .i64 0, .int .i64 0, .int .i64 0, .string ⟨#[]⟩, .string ⟨#[]⟩, .bool false, .slice none 0 0] 29)
 obtain ⟨p0, p1, p2, p3, p4, _⟩ := blk5 hP
 clear hr hnb
 go_enter Try.func45, Try.ntmps45
 go_wp2_with fail
 clear p0 p1 p2 p3 p4
 generalize ((w.alloc (.cells #[.string ⟨n.toArray⟩, .int .i64 5, .int .i64 1, .int .i64 i, .string ⟨#[]⟩] 38)).alloc (.cells #[.int .i64 0, .int .i64 0, .int .i64 0, .string ⟨#[]⟩, .string ⟨#[]⟩, .bool false, .slice none 0 0] 29)) = w0 at *
 refine (rwhole_1 w0).mono ?_
 rintro e w1 ⟨rfl, hg1⟩
 have hP1 := Blk.alloc (Blk.below hP hg1.below hP.lt) (.cells #[.int .i64 1, .int .i64 (-9223372036854775808), .int .i64 9223372036854775807, .string ⟨#[]⟩, .string ⟨#[]⟩, .bool false, .slice none 0 0] 29)
 have hY1 := Blk.alloc (Blk.below hY hg1.below hY.lt) (.cells #[.int .i64 1, .int .i64 (-9223372036854775808), .int .i64 9223372036854775807, .string ⟨#[]⟩, .string ⟨#[]⟩, .bool false, .slice none 0 0] 29)
 have hYw := Blk.below hY hg1.below hY.lt
 have hBw := (hg0.trans hg1).below
 have hW1 := Blk.new w1 29 #[.int .i64 1, .int .i64 (-9223372036854775808), .int .i64 9223372036854775807, .string ⟨#[]⟩, .string ⟨#[]⟩, .bool false, .slice none 0 0]
 have hB1 := ((hg0.trans hg1).alloc (.cells #[.int .i64 1, .int .i64 (-9223372036854775808), .int .i64 9223372036854775807, .string ⟨#[]⟩, .string ⟨#[]⟩, .bool false, .slice none 0 0] 29)).below
 have hl1 : w.heap.size + 1 < w1.heap.size := (Blk.below hY hg1.below hY.lt).lt
 obtain ⟨p0, p1, p2, p3, p4, _⟩ := blk5 hP1
 obtain ⟨y0, y1, y2, y3, y4, y5, y6, _⟩ := blk7 hW1
 have hlw : w1.heap.size < (w1.alloc (.cells #[.int .i64 1, .int .i64 (-9223372036854775808), .int .i64 9223372036854775807, .string ⟨#[]⟩, .string ⟨#[]⟩, .bool false, .slice none 0 0] 29)).heap.size := hW1.lt
 clear hg0 hg1 hP hY hP1 hW1
 by_cases he : i = 9223372036854775807
 ·subst he
  have HF : Hid (IsOf ⟨n, 5, 1, 9223372036854775807, []⟩ none_) := of_N HR.out (.inl rfl) (show IsInts 1 (9223372036854775807 + 1) 9223372036854775807 [] none_ from ints_none (by decide) fun x h3 h4 => by omega)
  clear h1 h2
  obtain ⟨u0, u1, u2, u3, u4, u5, u6, q0, q1, q2, q3, q4, q5, q6⟩ := blk7 hY1
  obtain ⟨t0, t1, t2, t3, t4, t5, t6, s0, s1, s2, s3, s4, s5, s6⟩ := blk7 hYw
  have hlY := hY1.lt
  have hne : w.heap.size + 1 ≠ w1.heap.size := by omega
  go_wp2_with fail
  refine bodyPost_ret (v := spF 0 0 0 [] [] false none 0 0) (by simp [results, Try.results45, go_sem, t0, t1, t2, t3, t4, t5, t6, hl1]) rfl ?_
  exact ⟨none_, HF.out, Nat.zero_le _, none, 0, 0, rfl, rfl, Nat.le_refl _, OwnK.none_ _ _, (below_put7 hBw (by omega) _ _ _ _ _ _ _).alloc (below_put7 hBw (by omega) _ _ _ _ _ _ _).size _⟩
 ·have v1 : (i == 9223372036854775807) = false := by simpa using he
  have h3 : (-9223372036854775808) <= i + 1 := by omega
  have h4 : i + 1 <= 9223372036854775807 := by omega
  clear he
  have hY2 := hY1
  have hB2 := hB1
  go_wp2_with fail
  clear p0 p1 p2 p3 p4 y0 y1 y2 y3 y4 y5 y6
  refine (rints_at 1 (i + 1) 9223372036854775807 none [] 0 0 (by decide) (h3) (by decide) rfl (by decide) (fun v hv => by cases hv) _ (.inl rfl)).mono ?_
  rintro e w3 ⟨⟨rK, rlo, rhi, rf, rt, ro, rno⟩, hin, hrl, A7, n7, c7, rfl, hl7, hc7, ho7, hb7⟩
  dsimp only at hrl hl7 ho7
  have HP : Hid (IsOf ⟨n, 5, 1, i, []⟩ ⟨rK, rlo, rhi, rf, rt, ro, rno⟩) := of_N HR.out (.inl rfl) hin
  have hY3 := Blk.below hY2 hb7 hY2.lt
  have hB3 := below_next hB2 (Nat.le_refl _) hb7
  obtain ⟨u0, u1, u2, u3, u4, u5, u6, q0, q1, q2, q3, q4, q5, q6⟩ := blk7 hY3
  have hlY := hY3.lt
  have hlZ := hY2.lt
  have HL7 := Lib.hid hl7
  clear hin hb7 hl7
  go_wp2_with fail
  refine bodyPost_ret (v := spF rK rlo rhi rf rt ro A7 n7 c7) (by simp [results, Try.results45, go_sem, u0, u1, u2, u3, u4, u5, u6]) rfl ?_
  exact ⟨⟨rK, rlo, rhi, rf, rt, ro, rno⟩, HP.out, by show rno.length <= 1; have := HL7.out; omega, A7, n7, c7, rfl, HL7.out, hc7, (OwnK.put7 ho7 (by omega) _ _ _ _ _ _ _).less (by omega), below_put7 hB3 (by omega) _ _ _ _ _ _ _⟩
set_option maxRecDepth 100000 in
set_option maxHeartbeats 2000000 in
theorem rnum_6_1 (n : List UInt8) (i : Int) (hr : rightP ⟨n, 6, 1, i, []⟩ = true) (w : World) : Calls Try.prog 45 #[.agg #[.string ⟨n.toArray⟩, .int .i64 6, .int .i64 1, .int .i64 i, .string ⟨#[]⟩]] w (GivesS w (IsOf ⟨n, 6, 1, i, []⟩) 1) := by
 have hnb := num_bd (rightP_side hr (show (6 : Int) ≠ 8 by decide)) (.inl rfl)
 have h1 : (-9223372036854775808) <= i := hnb.1
 have h2 : i <= 9223372036854775807 := hnb.2
 have HR := Lib.hid hr
 have hP := Blk.alloc (Blk.new w 38 #[.string ⟨n.toArray⟩, .int .i64 6, .int .i64 1, .int .i64 i, .string ⟨#[]⟩]) (.cells #[.int .i64 0, .int .i64 0, .int .i64 0, .string ⟨#[]⟩, .string ⟨#[]⟩, .bool false, .slice none 0 0] 29)
 have hY : Blk ((w.alloc (.cells #[.string ⟨n.toArray⟩, .int .i64 6, .int .i64 1, .int .i64 i, .string ⟨#[]⟩] 38)).alloc (.cells #[.int .i64 0, .int .i64 0, .int .i64 0, .string ⟨#[]⟩, .string ⟨#[]⟩, .bool false, .slice none 0 0] 29)) (w.heap.size + 1) 29 #[.int .i64 0, .int .i64 0, .int .i64 0, .string ⟨#[]⟩, .string ⟨#[]⟩, .bool false, .slice none 0 0] := by
  have := Blk.new (w.alloc (.cells #[.string ⟨n.toArray⟩, .int .i64 6, .int .i64 1, .int .i64 i, .string ⟨#[]⟩] 38)) 29 #[.int .i64 0, .int .i64 0, .int .i64 0, .string ⟨#[]⟩, .string ⟨#[]⟩, .bool false, .slice none 0 0]
  rwa [show (w.alloc (.cells #[.string ⟨n.toArray⟩, .int .i64 6, .int .i64 1, .int .i64 i, .string ⟨#[]⟩] 38)).heap.size = w.heap.size + 1 by simp] at this
 have hg0 := gr2 w (.cells #[.string ⟨n.toArray⟩, .int .i64 6, .int .i64 1, .int .i64 i, .string ⟨#[]⟩] 38) (.cells #[.int .i64 0, .int .i64 0, .int .i64 0, .string ⟨#[]⟩, .string ⟨#[]⟩, .bool false, .slice none 0 0] 29)
 obtain ⟨p0, p1, p2, p3, p4, _⟩ := blk5 hP
 clear hr hnb
 go_enter Try.func45, Try.ntmps45
 go_wp2_with fail
 clear p0 p1 p2 p3 p4
 generalize ((w.alloc (.cells #[.string ⟨n.toArray⟩, .int .i64 6, .int .i64 1, .int .i64 i, .string ⟨#[]⟩] 38)).alloc (.cells #[.int .i64 0, .int .i64 0, .int .i64 0, .string ⟨#[]⟩, .string ⟨#[]⟩, .bool false, .slice none 0 0] 29)) = w0 at *
 refine (rwhole_1 w0).mono ?_
 rintro e w1 ⟨rfl, hg1⟩
 have hP1 := Blk.alloc (Blk.below hP hg1.below hP.lt) (.cells #[.int .i64 1, .int .i64 (-9223372036854775808), .int .i64 9223372036854775807, .string ⟨#[]⟩, .string ⟨#[]⟩, .bool false, .slice none 0 0] 29)
 have hY1 := Blk.alloc (Blk.below hY hg1.below hY.lt) (.cells #[.int .i64 1, .int .i64 (-9223372036854775808), .int .i64 9223372036854775807, .string ⟨#[]⟩, .string ⟨#[]⟩, .bool false, .slice none 0 0] 29)
 have hYw := Blk.below hY hg1.below hY.lt
 have hBw := (hg0.trans hg1).below
 have hW1 := Blk.new w1 29 #[.int .i64 1, .int .i64 (-9223372036854775808), .int .i64 9223372036854775807, .string ⟨#[]⟩, .string ⟨#[]⟩, .bool false, .slice none 0 0]
 have hB1 := ((hg0.trans hg1).alloc (.cells #[.int .i64 1, .int .i64 (-9223372036854775808), .int .i64 9223372036854775807, .string ⟨#[]⟩, .string ⟨#[]⟩, .bool false, .slice none 0 0] 29)).below
 have hl1 : w.heap.size + 1 < w1.heap.size := (Blk.below hY hg1.below hY.lt).lt
 obtain ⟨p0, p1, p2, p3, p4, _⟩ := blk5 hP1
 obtain ⟨y0, y1, y2, y3, y4, y5, y6, _⟩ := blk7 hW1
 have hlw : w1.heap.size < (w1.alloc (.cells #[.int .i64 1, .int .i64 (-9223372036854775808), .int .i64 9223372036854775807, .string ⟨#[]⟩, .string ⟨#[]⟩, .bool false, .slice none 0 0] 29)).heap.size := hW1.lt
 clear hg0 hg1 hP hY hP1 hW1
 have hY2 := hY1
 have hB2 := hB1
 go_wp2_with fail
 clear p0 p1 p2 p3 p4 y0 y1 y2 y3 y4 y5 y6
 refine (rints_at 1 i 9223372036854775807 none [] 0 0 (by decide) (h1) (by decide) rfl (by decide) (fun v hv => by cases hv) _ (.inl rfl)).mono ?_
 rintro e w3 ⟨⟨rK, rlo, rhi, rf, rt, ro, rno⟩, hin, hrl, A7, n7, c7, rfl, hl7, hc7, ho7, hb7⟩
 dsimp only at hrl hl7 ho7
 have HP : Hid (IsOf ⟨n, 6, 1, i, []⟩ ⟨rK, rlo, rhi, rf, rt, ro, rno⟩) := of_N HR.out (.inl rfl) hin
 have hY3 := Blk.below hY2 hb7 hY2.lt
 have hB3 := below_next hB2 (Nat.le_refl _) hb7
 obtain ⟨u0, u1, u2, u3, u4, u5, u6, q0, q1, q2, q3, q4, q5, q6⟩ := blk7 hY3
 have hlY := hY3.lt
 have hlZ := hY2.lt
 have HL7 := Lib.hid hl7
 clear hin hb7 hl7
 go_wp2_with fail
 refine bodyPost_ret (v := spF rK rlo rhi rf rt ro A7 n7 c7) (by simp [results, Try.results45, go_sem, u0, u1, u2, u3, u4, u5, u6]) rfl ?_
 exact ⟨⟨rK, rlo, rhi, rf, rt, ro, rno⟩, HP.out, by show rno.length <= 1; have := HL7.out; omega, A7, n7, c7, rfl, HL7.out, hc7, (OwnK.put7 ho7 (by omega) _ _ _ _ _ _ _).less (by omega), below_put7 hB3 (by omega) _ _ _ _ _ _ _⟩
set_option maxRecDepth 100000 in
set_option maxHeartbeats 2000000 in
theorem rnum_1_3 (n : List UInt8) (i : Int) (hr : rightP ⟨n, 1, 3, i, []⟩ = true) (w : World) : Calls Try.prog 45 #[.agg #[.string ⟨n.toArray⟩, .int .i64 1, .int .i64 3, .int .i64 i, .string ⟨#[]⟩]] w (GivesS w (IsOf ⟨n, 1, 3, i, []⟩) 1) := by
 have hnb := num_bd (rightP_side hr (show (1 : Int) ≠ 8 by decide)) (.inr rfl)
 have h1 : 0 <= i := hnb.1
 have h2 : i <= 1 := hnb.2
 have HR := Lib.hid hr
 have hP := Blk.alloc (Blk.new w 38 #[.string ⟨n.toArray⟩, .int .i64 1, .int .i64 3, .int .i64 i, .string ⟨#[]⟩]) (.cells #[.int .i64 0, .int .i64 0, .int .i64 0, .string ⟨#[]⟩, .string ⟨#[]⟩, .bool false, .slice none 0 0] 29)
 have hY : Blk ((w.alloc (.cells #[.string ⟨n.toArray⟩, .int .i64 1, .int .i64 3, .int .i64 i, .string ⟨#[]⟩] 38)).alloc (.cells #[.int .i64 0, .int .i64 0, .int .i64 0, .string ⟨#[]⟩, .string ⟨#[]⟩, .bool false, .slice none 0 0] 29)) (w.heap.size + 1) 29 #[.int .i64 0, .int .i64 0, .int .i64 0, .string ⟨#[]⟩, .string ⟨#[]⟩, .bool false, .slice none 0 0] := by
  have := Blk.new (w.alloc (.cells #[.string ⟨n.toArray⟩, .int .i64 1, .int .i64 3, .int .i64 i, .string ⟨#[]⟩] 38)) 29 #[.int .i64 0, .int .i64 0, .int .i64 0, .string ⟨#[]⟩, .string ⟨#[]⟩, .bool false, .slice none 0 0]
  rwa [show (w.alloc (.cells #[.string ⟨n.toArray⟩, .int .i64 1, .int .i64 3, .int .i64 i, .string ⟨#[]⟩] 38)).heap.size = w.heap.size + 1 by simp] at this
 have hg0 := gr2 w (.cells #[.string ⟨n.toArray⟩, .int .i64 1, .int .i64 3, .int .i64 i, .string ⟨#[]⟩] 38) (.cells #[.int .i64 0, .int .i64 0, .int .i64 0, .string ⟨#[]⟩, .string ⟨#[]⟩, .bool false, .slice none 0 0] 29)
 obtain ⟨p0, p1, p2, p3, p4, _⟩ := blk5 hP
 clear hr hnb
 go_enter Try.func45, Try.ntmps45
 go_wp2_with fail
 clear p0 p1 p2 p3 p4
 generalize ((w.alloc (.cells #[.string ⟨n.toArray⟩, .int .i64 1, .int .i64 3, .int .i64 i, .string ⟨#[]⟩] 38)).alloc (.cells #[.int .i64 0, .int .i64 0, .int .i64 0, .string ⟨#[]⟩, .string ⟨#[]⟩, .bool false, .slice none 0 0] 29)) = w0 at *
 refine (rwhole_3 w0).mono ?_
 rintro e w1 ⟨rfl, hg1⟩
 have hP1 := Blk.alloc (Blk.below hP hg1.below hP.lt) (.cells #[.int .i64 3, .int .i64 0, .int .i64 1, .string ⟨#[]⟩, .string ⟨#[]⟩, .bool false, .slice none 0 0] 29)
 have hY1 := Blk.alloc (Blk.below hY hg1.below hY.lt) (.cells #[.int .i64 3, .int .i64 0, .int .i64 1, .string ⟨#[]⟩, .string ⟨#[]⟩, .bool false, .slice none 0 0] 29)
 have hYw := Blk.below hY hg1.below hY.lt
 have hBw := (hg0.trans hg1).below
 have hW1 := Blk.new w1 29 #[.int .i64 3, .int .i64 0, .int .i64 1, .string ⟨#[]⟩, .string ⟨#[]⟩, .bool false, .slice none 0 0]
 have hB1 := ((hg0.trans hg1).alloc (.cells #[.int .i64 3, .int .i64 0, .int .i64 1, .string ⟨#[]⟩, .string ⟨#[]⟩, .bool false, .slice none 0 0] 29)).below
 have hl1 : w.heap.size + 1 < w1.heap.size := (Blk.below hY hg1.below hY.lt).lt
 obtain ⟨p0, p1, p2, p3, p4, _⟩ := blk5 hP1
 obtain ⟨y0, y1, y2, y3, y4, y5, y6, _⟩ := blk7 hW1
 have hlw : w1.heap.size < (w1.alloc (.cells #[.int .i64 3, .int .i64 0, .int .i64 1, .string ⟨#[]⟩, .string ⟨#[]⟩, .bool false, .slice none 0 0] 29)).heap.size := hW1.lt
 clear hg0 hg1 hP hY hP1 hW1
 have hY2 := hY1
 have hB2 := hB1
 go_wp2_with fail
 clear p0 p1 p2 p3 p4 y0 y1 y2 y3 y4 y5 y6
 refine (rints_at 3 i i none [] 0 0 (by decide) (h1) (h2) rfl (by decide) (fun v hv => by cases hv) _ (.inl rfl)).mono ?_
 rintro e w3 ⟨⟨rK, rlo, rhi, rf, rt, ro, rno⟩, hin, hrl, A7, n7, c7, rfl, hl7, hc7, ho7, hb7⟩
 dsimp only at hrl hl7 ho7
 have HP : Hid (IsOf ⟨n, 1, 3, i, []⟩ ⟨rK, rlo, rhi, rf, rt, ro, rno⟩) := of_N HR.out (.inr rfl) hin
 have hY3 := Blk.below hY2 hb7 hY2.lt
 have hB3 := below_next hB2 (Nat.le_refl _) hb7
 obtain ⟨u0, u1, u2, u3, u4, u5, u6, q0, q1, q2, q3, q4, q5, q6⟩ := blk7 hY3
 have hlY := hY3.lt
 have hlZ := hY2.lt
 have HL7 := Lib.hid hl7
 clear hin hb7 hl7
 go_wp2_with fail
 refine bodyPost_ret (v := spF rK rlo rhi rf rt ro A7 n7 c7) (by simp [results, Try.results45, go_sem, u0, u1, u2, u3, u4, u5, u6]) rfl ?_
 exact ⟨⟨rK, rlo, rhi, rf, rt, ro, rno⟩, HP.out, by show rno.length <= 1; have := HL7.out; omega, A7, n7, c7, rfl, HL7.out, hc7, (OwnK.put7 ho7 (by omega) _ _ _ _ _ _ _).less (by omega), below_put7 hB3 (by omega) _ _ _ _ _ _ _⟩
set_option maxRecDepth 100000 in
set_option maxHeartbeats 2000000 in
theorem rnum_2_3 (n : List UInt8) (i : Int) (hr : rightP ⟨n, 2, 3, i, []⟩ = true) (w : World) : Calls Try.prog 45 #[.agg #[.string ⟨n.toArray⟩, .int .i64 2, .int .i64 3, .int .i64 i, .string ⟨#[]⟩]] w (GivesS w (IsOf ⟨n, 2, 3, i, []⟩) 1) := by
 have hnb := num_bd (rightP_side hr (show (2 : Int) ≠ 8 by decide)) (.inr rfl)
 have h1 : 0 <= i := hnb.1
 have h2 : i <= 1 := hnb.2
 have HR := Lib.hid hr
 have hP := Blk.alloc (Blk.new w 38 #[.string ⟨n.toArray⟩, .int .i64 2, .int .i64 3, .int .i64 i, .string ⟨#[]⟩]) (.cells #[.int .i64 0, .int .i64 0, .int .i64 0, .string ⟨#[]⟩, .string ⟨#[]⟩, .bool false, .slice none 0 0] 29)
 have hY : Blk ((w.alloc (.cells #[.string ⟨n.toArray⟩, .int .i64 2, .int .i64 3, .int .i64 i, .string ⟨#[]⟩] 38)).alloc (.cells #[.int .i64 0, .int .i64 0, .int .i64 0, .string ⟨#[]⟩, .string ⟨#[]⟩, .bool false, .slice none 0 0] 29)) (w.heap.size + 1) 29 #[.int .i64 0, .int .i64 0, .int .i64 0, .string ⟨#[]⟩, .string ⟨#[]⟩, .bool false, .slice none 0 0] := by
  have := Blk.new (w.alloc (.cells #[.string ⟨n.toArray⟩, .int .i64 2, .int .i64 3, .int .i64 i, .string ⟨#[]⟩] 38)) 29 #[.int .i64 0, .int .i64 0, .int .i64 0, .string ⟨#[]⟩, .string ⟨#[]⟩, .bool false, .slice none 0 0]
  rwa [show (w.alloc (.cells #[.string ⟨n.toArray⟩, .int .i64 2, .int .i64 3, .int .i64 i, .string ⟨#[]⟩] 38)).heap.size = w.heap.size + 1 by simp] at this
 have hg0 := gr2 w (.cells #[.string ⟨n.toArray⟩, .int .i64 2, .int .i64 3, .int .i64 i, .string ⟨#[]⟩] 38) (.cells #[.int .i64 0, .int .i64 0, .int .i64 0, .string ⟨#[]⟩, .string ⟨#[]⟩, .bool false, .slice none 0 0] 29)
 obtain ⟨p0, p1, p2, p3, p4, _⟩ := blk5 hP
 clear hr hnb
 go_enter Try.func45, Try.ntmps45
 go_wp2_with fail
 clear p0 p1 p2 p3 p4
 generalize ((w.alloc (.cells #[.string ⟨n.toArray⟩, .int .i64 2, .int .i64 3, .int .i64 i, .string ⟨#[]⟩] 38)).alloc (.cells #[.int .i64 0, .int .i64 0, .int .i64 0, .string ⟨#[]⟩, .string ⟨#[]⟩, .bool false, .slice none 0 0] 29)) = w0 at *
 refine (rwhole_3 w0).mono ?_
 rintro e w1 ⟨rfl, hg1⟩
 have hP1 := Blk.alloc (Blk.below hP hg1.below hP.lt) (.cells #[.int .i64 3, .int .i64 0, .int .i64 1, .string ⟨#[]⟩, .string ⟨#[]⟩, .bool false, .slice none 0 0] 29)
 have hY1 := Blk.alloc (Blk.below hY hg1.below hY.lt) (.cells #[.int .i64 3, .int .i64 0, .int .i64 1, .string ⟨#[]⟩, .string ⟨#[]⟩, .bool false, .slice none 0 0] 29)
 have hYw := Blk.below hY hg1.below hY.lt
 have hBw := (hg0.trans hg1).below
 have hW1 := Blk.new w1 29 #[.int .i64 3, .int .i64 0, .int .i64 1, .string ⟨#[]⟩, .string ⟨#[]⟩, .bool false, .slice none 0 0]
 have hB1 := ((hg0.trans hg1).alloc (.cells #[.int .i64 3, .int .i64 0, .int .i64 1, .string ⟨#[]⟩, .string ⟨#[]⟩, .bool false, .slice none 0 0] 29)).below
 have hl1 : w.heap.size + 1 < w1.heap.size := (Blk.below hY hg1.below hY.lt).lt
 obtain ⟨p0, p1, p2, p3, p4, _⟩ := blk5 hP1
 obtain ⟨y0, y1, y2, y3, y4, y5, y6, _⟩ := blk7 hW1
 have hlw : w1.heap.size < (w1.alloc (.cells #[.int .i64 3, .int .i64 0, .int .i64 1, .string ⟨#[]⟩, .string ⟨#[]⟩, .bool false, .slice none 0 0] 29)).heap.size := hW1.lt
 clear hg0 hg1 hP hY hP1 hW1
 have hrx := rdk_one layV (w1.alloc (.cells #[.int .i64 3, .int .i64 0, .int .i64 1, .string ⟨#[]⟩, .string ⟨#[]⟩, .bool false, .slice none 0 0] 29)) ⟨3, i, []⟩ 24 #[.int .i64 3, .int .i64 i, .string ⟨#[]⟩] rfl
 have hsx : (w1.alloc (.cells #[.int .i64 3, .int .i64 0, .int .i64 1, .string ⟨#[]⟩, .string ⟨#[]⟩, .bool false, .slice none 0 0] 29)).heap.size = w1.heap.size + 1 := by simp
 rw [hsx] at hrx
 have hY2 := Blk.alloc hY1 (.cells #[.int .i64 3, .int .i64 i, .string ⟨#[]⟩] 24)
 have hB2 := hB1.alloc hB1.size (.cells #[.int .i64 3, .int .i64 i, .string ⟨#[]⟩] 24)
 go_wp2_with fail
 clear p0 p1 p2 p3 p4 y0 y1 y2 y3 y4 y5 y6
 refine (rints_at 3 0 1 (some ⟨w1.heap.size + 1, 0, none⟩) [⟨3, i, []⟩] 1 1 (by decide) (by decide) (by decide) rfl (by decide) (fun v hv => by simp at hv; subst hv; exact ⟨rfl, rfl⟩) _ hrx).mono ?_
 rintro e w3 ⟨⟨rK, rlo, rhi, rf, rt, ro, rno⟩, hin, hrl, A7, n7, c7, rfl, hl7, hc7, ho7, hb7⟩
 dsimp only at hrl hl7 ho7
 have HP : Hid (IsOf ⟨n, 2, 3, i, []⟩ ⟨rK, rlo, rhi, rf, rt, ro, rno⟩) := of_N HR.out (.inr rfl) hin
 have hY3 := Blk.below hY2 hb7 hY2.lt
 have hB3 := below_next hB2 (Nat.le_refl _) hb7
 obtain ⟨u0, u1, u2, u3, u4, u5, u6, q0, q1, q2, q3, q4, q5, q6⟩ := blk7 hY3
 have hlY := hY3.lt
 have hlZ := hY2.lt
 have HL7 := Lib.hid hl7
 clear hin hb7 hl7
 go_wp2_with fail
 refine bodyPost_ret (v := spF rK rlo rhi rf rt ro A7 n7 c7) (by simp [results, Try.results45, go_sem, u0, u1, u2, u3, u4, u5, u6]) rfl ?_
 exact ⟨⟨rK, rlo, rhi, rf, rt, ro, rno⟩, HP.out, by show rno.length <= 1; have := HL7.out; omega, A7, n7, c7, rfl, HL7.out, hc7, (OwnK.put7 ho7 (by omega) _ _ _ _ _ _ _).less (by omega), below_put7 hB3 (by omega) _ _ _ _ _ _ _⟩
set_option maxRecDepth 100000 in
set_option maxHeartbeats 2000000 in
theorem rnum_3_3 (n : List UInt8) (i : Int) (hr : rightP ⟨n, 3, 3, i, []⟩ = true) (w : World) : Calls Try.prog 45 #[.agg #[.string ⟨n.toArray⟩, .int .i64 3, .int .i64 3, .int .i64 i, .string ⟨#[]⟩]] w (GivesS w (IsOf ⟨n, 3, 3, i, []⟩) 1) := by
 have hnb := num_bd (rightP_side hr (show (3 : Int) ≠ 8 by decide)) (.inr rfl)
 have h1 : 0 <= i := hnb.1
 have h2 : i <= 1 := hnb.2
 have HR := Lib.hid hr
 have hP := Blk.alloc (Blk.new w 38 #[.string ⟨n.toArray⟩, .int .i64 3, .int .i64 3, .int .i64 i, .string ⟨#[]⟩]) (.cells #[.int .i64 0, .int .i64 0, .int .i64 0, .string ⟨#[]⟩, .string ⟨#[]⟩, .bool false, .slice none 0 0] 29)
 have hY : Blk ((w.alloc (.cells #[.string ⟨n.toArray⟩, .int .i64 3, .int .i64 3, .int .i64 i, .string ⟨#[]⟩] 38)).alloc (.cells #[.int .i64 0, .int .i64 0, .int .i64 0, .string ⟨#[]⟩, .string ⟨#[]⟩, .bool false, .slice none 0 0] 29)) (w.heap.size + 1) 29 #[.int .i64 0, .int .i64 0, .int .i64 0, .string ⟨#[]⟩, .string ⟨#[]⟩, .bool false, .slice none 0 0] := by
  have := Blk.new (w.alloc (.cells #[.string ⟨n.toArray⟩, .int .i64 3, .int .i64 3, .int .i64 i, .string ⟨#[]⟩] 38)) 29 #[.int .i64 0, .int .i64 0, .int .i64 0, .string ⟨#[]⟩, .string ⟨#[]⟩, .bool false, .slice none 0 0]
  rwa [show (w.alloc (.cells #[.string ⟨n.toArray⟩, .int .i64 3, .int .i64 3, .int .i64 i, .string ⟨#[]⟩] 38)).heap.size = w.heap.size + 1 by simp] at this
 have hg0 := gr2 w (.cells #[.string ⟨n.toArray⟩, .int .i64 3, .int .i64 3, .int .i64 i, .string ⟨#[]⟩] 38) (.cells #[.int .i64 0, .int .i64 0, .int .i64 0, .string ⟨#[]⟩, .string ⟨#[]⟩, .bool false, .slice none 0 0] 29)
 obtain ⟨p0, p1, p2, p3, p4, _⟩ := blk5 hP
 clear hr hnb
 go_enter Try.func45, Try.ntmps45
 go_wp2_with fail
 clear p0 p1 p2 p3 p4
 generalize ((w.alloc (.cells #[.string ⟨n.toArray⟩, .int .i64 3, .int .i64 3, .int .i64 i, .string ⟨#[]⟩] 38)).alloc (.cells #[.int .i64 0, .int .i64 0, .int .i64 0, .string ⟨#[]⟩, .string ⟨#[]⟩, .bool false, .slice none 0 0] 29)) = w0 at *
 refine (rwhole_3 w0).mono ?_
 rintro e w1 ⟨rfl, hg1⟩
 have hP1 := Blk.alloc (Blk.below hP hg1.below hP.lt) (.cells #[.int .i64 3, .int .i64 0, .int .i64 1, .string ⟨#[]⟩, .string ⟨#[]⟩, .bool false, .slice none 0 0] 29)
 have hY1 := Blk.alloc (Blk.below hY hg1.below hY.lt) (.cells #[.int .i64 3, .int .i64 0, .int .i64 1, .string ⟨#[]⟩, .string ⟨#[]⟩, .bool false, .slice none 0 0] 29)
 have hYw := Blk.below hY hg1.below hY.lt
 have hBw := (hg0.trans hg1).below
 have hW1 := Blk.new w1 29 #[.int .i64 3, .int .i64 0, .int .i64 1, .string ⟨#[]⟩, .string ⟨#[]⟩, .bool false, .slice none 0 0]
 have hB1 := ((hg0.trans hg1).alloc (.cells #[.int .i64 3, .int .i64 0, .int .i64 1, .string ⟨#[]⟩, .string ⟨#[]⟩, .bool false, .slice none 0 0] 29)).below
 have hl1 : w.heap.size + 1 < w1.heap.size := (Blk.below hY hg1.below hY.lt).lt
 obtain ⟨p0, p1, p2, p3, p4, _⟩ := blk5 hP1
 obtain ⟨y0, y1, y2, y3, y4, y5, y6, _⟩ := blk7 hW1
 have hlw : w1.heap.size < (w1.alloc (.cells #[.int .i64 3, .int .i64 0, .int .i64 1, .string ⟨#[]⟩, .string ⟨#[]⟩, .bool false, .slice none 0 0] 29)).heap.size := hW1.lt
 clear hg0 hg1 hP hY hP1 hW1
 by_cases he : i = 0
 ·subst he
  have HF : Hid (IsOf ⟨n, 3, 3, 0, []⟩ none_) := of_N HR.out (.inr rfl) (show IsInts 3 0 (0 - 1) [] none_ from ints_none (by decide) fun x h3 h4 => by omega)
  clear h1 h2
  obtain ⟨u0, u1, u2, u3, u4, u5, u6, q0, q1, q2, q3, q4, q5, q6⟩ := blk7 hY1
  obtain ⟨t0, t1, t2, t3, t4, t5, t6, s0, s1, s2, s3, s4, s5, s6⟩ := blk7 hYw
  have hlY := hY1.lt
  have hne : w.heap.size + 1 ≠ w1.heap.size := by omega
  go_wp2_with fail
  refine bodyPost_ret (v := spF 0 0 0 [] [] false none 0 0) (by simp [results, Try.results45, go_sem, t0, t1, t2, t3, t4, t5, t6, hl1]) rfl ?_
  exact ⟨none_, HF.out, Nat.zero_le _, none, 0, 0, rfl, rfl, Nat.le_refl _, OwnK.none_ _ _, (below_put7 hBw (by omega) _ _ _ _ _ _ _).alloc (below_put7 hBw (by omega) _ _ _ _ _ _ _).size _⟩
 ·have v1 : (i == 0) = false := by simpa using he
  have h3 : 0 <= i - 1 := by omega
  have h4 : i - 1 <= 1 := by omega
  clear he
  have hY2 := hY1
  have hB2 := hB1
  go_wp2_with fail
  clear p0 p1 p2 p3 p4 y0 y1 y2 y3 y4 y5 y6
  refine (rints_at 3 0 (i - 1) none [] 0 0 (by decide) (by decide) (h4) rfl (by decide) (fun v hv => by cases hv) _ (.inl rfl)).mono ?_
  rintro e w3 ⟨⟨rK, rlo, rhi, rf, rt, ro, rno⟩, hin, hrl, A7, n7, c7, rfl, hl7, hc7, ho7, hb7⟩
  dsimp only at hrl hl7 ho7
  have HP : Hid (IsOf ⟨n, 3, 3, i, []⟩ ⟨rK, rlo, rhi, rf, rt, ro, rno⟩) := of_N HR.out (.inr rfl) hin
  have hY3 := Blk.below hY2 hb7 hY2.lt
  have hB3 := below_next hB2 (Nat.le_refl _) hb7
  obtain ⟨u0, u1, u2, u3, u4, u5, u6, q0, q1, q2, q3, q4, q5, q6⟩ := blk7 hY3
  have hlY := hY3.lt
  have hlZ := hY2.lt
  have HL7 := Lib.hid hl7
  clear hin hb7 hl7
  go_wp2_with fail
  refine bodyPost_ret (v := spF rK rlo rhi rf rt ro A7 n7 c7) (by simp [results, Try.results45, go_sem, u0, u1, u2, u3, u4, u5, u6]) rfl ?_
  exact ⟨⟨rK, rlo, rhi, rf, rt, ro, rno⟩, HP.out, by show rno.length <= 1; have := HL7.out; omega, A7, n7, c7, rfl, HL7.out, hc7, (OwnK.put7 ho7 (by omega) _ _ _ _ _ _ _).less (by omega), below_put7 hB3 (by omega) _ _ _ _ _ _ _⟩
set_option maxRecDepth 100000 in
set_option maxHeartbeats 2000000 in
theorem rnum_4_3 (n : List UInt8) (i : Int) (hr : rightP ⟨n, 4, 3, i, []⟩ = true) (w : World) : Calls Try.prog 45 #[.agg #[.string ⟨n.toArray⟩, .int .i64 4, .int .i64 3, .int .i64 i, .string ⟨#[]⟩]] w (GivesS w (IsOf ⟨n, 4, 3, i, []⟩) 1) := by
 have hnb := num_bd (rightP_side hr (show (4 : Int) ≠ 8 by decide)) (.inr rfl)
 have h1 : 0 <= i := hnb.1
 have h2 : i <= 1 := hnb.2
 have HR := Lib.hid hr
 have hP := Blk.alloc (Blk.new w 38 #[.string ⟨n.toArray⟩, .int .i64 4, .int .i64 3, .int .i64 i, .string ⟨#[]⟩]) (.cells #[.int .i64 0, .int .i64 0, .int .i64 0, .string ⟨#[]⟩, .string ⟨#[]⟩, .bool false, .slice none 0 0] 29)
 have hY : Blk ((w.alloc (.cells #[.string ⟨n.toArray⟩, .int .i64 4, .int .i64 3, .int .i64 i, .string ⟨#[]⟩] 38)).alloc (.cells #[.int .i64 0, .int .i64 0, .int .i64 0, .string ⟨#[]⟩, .string ⟨#[]⟩, .bool false, .slice none 0 0] 29)) (w.heap.size + 1) 29 #[.int .i64 0, .int .i64 0, .int .i64 0, .string ⟨#[]⟩, .string ⟨#[]⟩, .bool false, .slice none 0 0] := by
  have := Blk.new (w.alloc (.cells #[.string ⟨n.toArray⟩, .int .i64 4, .int .i64 3, .int .i64 i, .string ⟨#[]⟩] 38)) 29 #[.int .i64 0, .int .i64 0, .int .i64 0, .string ⟨#[]⟩, .string ⟨#[]⟩, .bool false, .slice none 0 0]
  rwa [show (w.alloc (.cells #[.string ⟨n.toArray⟩, .int .i64 4, .int .i64 3, .int .i64 i, .string ⟨#[]⟩] 38)).heap.size = w.heap.size + 1 by simp] at this
 have hg0 := gr2 w (.cells #[.string ⟨n.toArray⟩, .int .i64 4, .int .i64 3, .int .i64 i, .string ⟨#[]⟩] 38) (.cells #[.int .i64 0, .int .i64 0, .int .i64 0, .string ⟨#[]⟩, .string ⟨#[]⟩, .bool false, .slice none 0 0] 29)
 obtain ⟨p0, p1, p2, p3, p4, _⟩ := blk5 hP
 clear hr hnb
 go_enter Try.func45, Try.ntmps45
 go_wp2_with fail
 clear p0 p1 p2 p3 p4
 generalize ((w.alloc (.cells #[.string ⟨n.toArray⟩, .int .i64 4, .int .i64 3, .int .i64 i, .string ⟨#[]⟩] 38)).alloc (.cells #[.int .i64 0, .int .i64 0, .int .i64 0, .string ⟨#[]⟩, .string ⟨#[]⟩, .bool false, .slice none 0 0] 29)) = w0 at *
 refine (rwhole_3 w0).mono ?_
 rintro e w1 ⟨rfl, hg1⟩
 have hP1 := Blk.alloc (Blk.below hP hg1.below hP.lt) (.cells #[.int .i64 3, .int .i64 0, .int .i64 1, .string ⟨#[]⟩, .string ⟨#[]⟩, .bool false, .slice none 0 0] 29)
 have hY1 := Blk.alloc (Blk.below hY hg1.below hY.lt) (.cells #[.int .i64 3, .int .i64 0, .int .i64 1, .string ⟨#[]⟩, .string ⟨#[]⟩, .bool false, .slice none 0 0] 29)
 have hYw := Blk.below hY hg1.below hY.lt
 have hBw := (hg0.trans hg1).below
 have hW1 := Blk.new w1 29 #[.int .i64 3, .int .i64 0, .int .i64 1, .string ⟨#[]⟩, .string ⟨#[]⟩, .bool false, .slice none 0 0]
 have hB1 := ((hg0.trans hg1).alloc (.cells #[.int .i64 3, .int .i64 0, .int .i64 1, .string ⟨#[]⟩, .string ⟨#[]⟩, .bool false, .slice none 0 0] 29)).below
 have hl1 : w.heap.size + 1 < w1.heap.size := (Blk.below hY hg1.below hY.lt).lt
 obtain ⟨p0, p1, p2, p3, p4, _⟩ := blk5 hP1
 obtain ⟨y0, y1, y2, y3, y4, y5, y6, _⟩ := blk7 hW1
 have hlw : w1.heap.size < (w1.alloc (.cells #[.int .i64 3, .int .i64 0, .int .i64 1, .string ⟨#[]⟩, .string ⟨#[]⟩, .bool false, .slice none 0 0] 29)).heap.size := hW1.lt
 clear hg0 hg1 hP hY hP1 hW1
 have hY2 := hY1
 have hB2 := hB1
 go_wp2_with fail
 clear p0 p1 p2 p3 p4 y0 y1 y2 y3 y4 y5 y6
 refine (rints_at 3 0 i none [] 0 0 (by decide) (by decide) (h2) rfl (by decide) (fun v hv => by cases hv) _ (.inl rfl)).mono ?_
 rintro e w3 ⟨⟨rK, rlo, rhi, rf, rt, ro, rno⟩, hin, hrl, A7, n7, c7, rfl, hl7, hc7, ho7, hb7⟩
 dsimp only at hrl hl7 ho7
 have HP : Hid (IsOf ⟨n, 4, 3, i, []⟩ ⟨rK, rlo, rhi, rf, rt, ro, rno⟩) := of_N HR.out (.inr rfl) hin
 have hY3 := Blk.below hY2 hb7 hY2.lt
 have hB3 := below_next hB2 (Nat.le_refl _) hb7
 obtain ⟨u0, u1, u2, u3, u4, u5, u6, q0, q1, q2, q3, q4, q5, q6⟩ := blk7 hY3
 have hlY := hY3.lt
 have hlZ := hY2.lt
 have HL7 := Lib.hid hl7
 clear hin hb7 hl7
 go_wp2_with fail
 refine bodyPost_ret (v := spF rK rlo rhi rf rt ro A7 n7 c7) (by simp [results, Try.results45, go_sem, u0, u1, u2, u3, u4, u5, u6]) rfl ?_
 exact ⟨⟨rK, rlo, rhi, rf, rt, ro, rno⟩, HP.out, by show rno.length <= 1; have := HL7.out; omega, A7, n7, c7, rfl, HL7.out, hc7, (OwnK.put7 ho7 (by omega) _ _ _ _ _ _ _).less (by omega), below_put7 hB3 (by omega) _ _ _ _ _ _ _⟩
set_option maxRecDepth 100000 in
set_option maxHeartbeats 2000000 in
theorem rnum_5_3 (n : List UInt8) (i : Int) (hr : rightP ⟨n, 5, 3, i, []⟩ = true) (w : World) : Calls Try.prog 45 #[.agg #[.string ⟨n.toArray⟩, .int .i64 5, .int .i64 3, .int .i64 i, .string ⟨#[]⟩]] w (GivesS w (IsOf ⟨n, 5, 3, i, []⟩) 1) := by
 have hnb := num_bd (rightP_side hr (show (5 : Int) ≠ 8 by decide)) (.inr rfl)
 have h1 : 0 <= i := hnb.1
 have h2 : i <= 1 := hnb.2
 have HR := Lib.hid hr
 have hP := Blk.alloc (Blk.new w 38 #[.string ⟨n.toArray⟩, .int .i64 5, .int .i64 3, .int .i64 i, .string ⟨#[]⟩]) (.cells #[.int .i64 0, .int .i64 0, .int .i64 0, .string ⟨#[]⟩, .string ⟨#[]⟩, .bool false, .slice none 0 0] 29)
 have hY : Blk ((w.alloc (.cells #[.string ⟨n.toArray⟩, .int .i64 5, .int .i64 3, .int .i64 i, .string ⟨#[]⟩] 38)).alloc (.cells #[.int .i64 0, .int .i64 0, .int .i64 0, .string ⟨#[]⟩, .string ⟨#[]⟩, .bool false, .slice none 0 0] 29)) (w.heap.size + 1) 29 #[.int .i64 0, .int .i64 0, .int .i64 0, .string ⟨#[]⟩, .string ⟨#[]⟩, .bool false, .slice none 0 0] := by
  have := Blk.new (w.alloc (.cells #[.string ⟨n.toArray⟩, .int .i64 5, .int .i64 3, .int .i64 i, .string ⟨#[]⟩] 38)) 29 #[.int .i64 0, .int .i64 0, .int .i64 0, .string ⟨#[]⟩, .string ⟨#[]⟩, .bool false, .slice none 0 0]
  rwa [show (w.alloc (.cells #[.string ⟨n.toArray⟩, .int .i64 5, .int .i64 3, .int .i64 i, .string ⟨#[]⟩] 38)).heap.size = w.heap.size + 1 by simp] at this
 have hg0 := gr2 w (.cells #[.string ⟨n.toArray⟩, .int .i64 5, .int .i64 3, .int .i64 i, .string ⟨#[]⟩] 38) (.cells #[.int .i64 0, .int .i64 0, .int .i64 0, .string ⟨#[]⟩, .string ⟨#[]⟩, .bool false, .slice none 0 0] 29)
 obtain ⟨p0, p1, p2, p3, p4, _⟩ := blk5 hP
 clear hr hnb
 go_enter Try.func45, Try.ntmps45
 go_wp2_with fail
 clear p0 p1 p2 p3 p4
 generalize ((w.alloc (.cells #[.string ⟨n.toArray⟩, .int .i64 5, .int .i64 3, .int .i64 i, .string ⟨#[]⟩] 38)).alloc (.cells #[.int .i64 0, .int .i64 0, .int .i64 0, .string ⟨#[]⟩, .string ⟨#[]⟩, .bool false, .slice none 0 0] 29)) = w0 at *
 refine (rwhole_3 w0).mono ?_
 rintro e w1 ⟨rfl, hg1⟩
 have hP1 := Blk.alloc (Blk.below hP hg1.below hP.lt) (.cells #[.int .i64 3, .int .i64 0, .int .i64 1, .string ⟨#[]⟩, .string ⟨#[]⟩, .bool false, .slice none 0 0] 29)
 have hY1 := Blk.alloc (Blk.below hY hg1.below hY.lt) (.cells #[.int .i64 3, .int .i64 0, .int .i64 1, .string ⟨#[]⟩, .string ⟨#[]⟩, .bool false, .slice none 0 0] 29)
 have hYw := Blk.below hY hg1.below hY.lt
 have hBw := (hg0.trans hg1).below
 have hW1 := Blk.new w1 29 #[.int .i64 3, .int .i64 0, .int .i64 1, .string ⟨#[]⟩, .string ⟨#[]⟩, .bool false, .slice none 0 0]
 have hB1 := ((hg0.trans hg1).alloc (.cells #[.int .i64 3, .int .i64 0, .int .i64 1, .string ⟨#[]⟩, .string ⟨#[]⟩, .bool false, .slice none 0 0] 29)).below
 have hl1 : w.heap.size + 1 < w1.heap.size := (Blk.below hY hg1.below hY.lt).lt
 obtain ⟨p0, p1, p2, p3, p4, _⟩ := blk5 hP1
 obtain ⟨y0, y1, y2, y3, y4, y5, y6, _⟩ := blk7 hW1
 have hlw : w1.heap.size < (w1.alloc (.cells #[.int .i64 3, .int .i64 0, .int .i64 1, .string ⟨#[]⟩, .string ⟨#[]⟩, .bool false, .slice none 0 0] 29)).heap.size := hW1.lt
 clear hg0 hg1 hP hY hP1 hW1
 by_cases he : i = 1
 ·subst he
  have HF : Hid (IsOf ⟨n, 5, 3, 1, []⟩ none_) := of_N HR.out (.inr rfl) (show IsInts 3 (1 + 1) 1 [] none_ from ints_none (by decide) fun x h3 h4 => by omega)
  clear h1 h2
  obtain ⟨u0, u1, u2, u3, u4, u5, u6, q0, q1, q2, q3, q4, q5, q6⟩ := blk7 hY1
  obtain ⟨t0, t1, t2, t3, t4, t5, t6, s0, s1, s2, s3, s4, s5, s6⟩ := blk7 hYw
  have hlY := hY1.lt
  have hne : w.heap.size + 1 ≠ w1.heap.size := by omega
  go_wp2_with fail
  refine bodyPost_ret (v := spF 0 0 0 [] [] false none 0 0) (by simp [results, Try.results45, go_sem, t0, t1, t2, t3, t4, t5, t6, hl1]) rfl ?_
  exact ⟨none_, HF.out, Nat.zero_le _, none, 0, 0, rfl, rfl, Nat.le_refl _, OwnK.none_ _ _, (below_put7 hBw (by omega) _ _ _ _ _ _ _).alloc (below_put7 hBw (by omega) _ _ _ _ _ _ _).size _⟩
 ·have v1 : (i == 1) = false := by simpa using he
  have h3 : 0 <= i + 1 := by omega
  have h4 : i + 1 <= 1 := by omega
  clear he
  have hY2 := hY1
  have hB2 := hB1
  go_wp2_with fail
  clear p0 p1 p2 p3 p4 y0 y1 y2 y3 y4 y5 y6
  refine (rints_at 3 (i + 1) 1 none [] 0 0 (by decide) (h3) (by decide) rfl (by decide) (fun v hv => by cases hv) _ (.inl rfl)).mono ?_
  rintro e w3 ⟨⟨rK, rlo, rhi, rf, rt, ro, rno⟩, hin, hrl, A7, n7, c7, rfl, hl7, hc7, ho7, hb7⟩
  dsimp only at hrl hl7 ho7
  have HP : Hid (IsOf ⟨n, 5, 3, i, []⟩ ⟨rK, rlo, rhi, rf, rt, ro, rno⟩) := of_N HR.out (.inr rfl) hin
  have hY3 := Blk.below hY2 hb7 hY2.lt
  have hB3 := below_next hB2 (Nat.le_refl _) hb7
  obtain ⟨u0, u1, u2, u3, u4, u5, u6, q0, q1, q2, q3, q4, q5, q6⟩ := blk7 hY3
  have hlY := hY3.lt
  have hlZ := hY2.lt
  have HL7 := Lib.hid hl7
  clear hin hb7 hl7
  go_wp2_with fail
  refine bodyPost_ret (v := spF rK rlo rhi rf rt ro A7 n7 c7) (by simp [results, Try.results45, go_sem, u0, u1, u2, u3, u4, u5, u6]) rfl ?_
  exact ⟨⟨rK, rlo, rhi, rf, rt, ro, rno⟩, HP.out, by show rno.length <= 1; have := HL7.out; omega, A7, n7, c7, rfl, HL7.out, hc7, (OwnK.put7 ho7 (by omega) _ _ _ _ _ _ _).less (by omega), below_put7 hB3 (by omega) _ _ _ _ _ _ _⟩
set_option maxRecDepth 100000 in
set_option maxHeartbeats 2000000 in
theorem rnum_6_3 (n : List UInt8) (i : Int) (hr : rightP ⟨n, 6, 3, i, []⟩ = true) (w : World) : Calls Try.prog 45 #[.agg #[.string ⟨n.toArray⟩, .int .i64 6, .int .i64 3, .int .i64 i, .string ⟨#[]⟩]] w (GivesS w (IsOf ⟨n, 6, 3, i, []⟩) 1) := by
 have hnb := num_bd (rightP_side hr (show (6 : Int) ≠ 8 by decide)) (.inr rfl)
 have h1 : 0 <= i := hnb.1
 have h2 : i <= 1 := hnb.2
 have HR := Lib.hid hr
 have hP := Blk.alloc (Blk.new w 38 #[.string ⟨n.toArray⟩, .int .i64 6, .int .i64 3, .int .i64 i, .string ⟨#[]⟩]) (.cells #[.int .i64 0, .int .i64 0, .int .i64 0, .string ⟨#[]⟩, .string ⟨#[]⟩, .bool false, .slice none 0 0] 29)
 have hY : Blk ((w.alloc (.cells #[.string ⟨n.toArray⟩, .int .i64 6, .int .i64 3, .int .i64 i, .string ⟨#[]⟩] 38)).alloc (.cells #[.int .i64 0, .int .i64 0, .int .i64 0, .string ⟨#[]⟩, .string ⟨#[]⟩, .bool false, .slice none 0 0] 29)) (w.heap.size + 1) 29 #[.int .i64 0, .int .i64 0, .int .i64 0, .string ⟨#[]⟩, .string ⟨#[]⟩, .bool false, .slice none 0 0] := by
  have := Blk.new (w.alloc (.cells #[.string ⟨n.toArray⟩, .int .i64 6, .int .i64 3, .int .i64 i, .string ⟨#[]⟩] 38)) 29 #[.int .i64 0, .int .i64 0, .int .i64 0, .string ⟨#[]⟩, .string ⟨#[]⟩, .bool false, .slice none 0 0]
  rwa [show (w.alloc (.cells #[.string ⟨n.toArray⟩, .int .i64 6, .int .i64 3, .int .i64 i, .string ⟨#[]⟩] 38)).heap.size = w.heap.size + 1 by simp] at this
 have hg0 := gr2 w (.cells #[.string ⟨n.toArray⟩, .int .i64 6, .int .i64 3, .int .i64 i, .string ⟨#[]⟩] 38) (.cells #[.int .i64 0, .int .i64 0, .int .i64 0, .string ⟨#[]⟩, .string ⟨#[]⟩, .bool false, .slice none 0 0] 29)
 obtain ⟨p0, p1, p2, p3, p4, _⟩ := blk5 hP
 clear hr hnb
 go_enter Try.func45, Try.ntmps45
 go_wp2_with fail
 clear p0 p1 p2 p3 p4
 generalize ((w.alloc (.cells #[.string ⟨n.toArray⟩, .int .i64 6, .int .i64 3, .int .i64 i, .string ⟨#[]⟩] 38)).alloc (.cells #[.int .i64 0, .int .i64 0, .int .i64 0, .string ⟨#[]⟩, .string ⟨#[]⟩, .bool false, .slice none 0 0] 29)) = w0 at *
 refine (rwhole_3 w0).mono ?_
 rintro e w1 ⟨rfl, hg1⟩
 have hP1 := Blk.alloc (Blk.below hP hg1.below hP.lt) (.cells #[.int .i64 3, .int .i64 0, .int .i64 1, .string ⟨#[]⟩, .string ⟨#[]⟩, .bool false, .slice none 0 0] 29)
 have hY1 := Blk.alloc (Blk.below hY hg1.below hY.lt) (.cells #[.int .i64 3, .int .i64 0, .int .i64 1, .string ⟨#[]⟩, .string ⟨#[]⟩, .bool false, .slice none 0 0] 29)
 have hYw := Blk.below hY hg1.below hY.lt
 have hBw := (hg0.trans hg1).below
 have hW1 := Blk.new w1 29 #[.int .i64 3, .int .i64 0, .int .i64 1, .string ⟨#[]⟩, .string ⟨#[]⟩, .bool false, .slice none 0 0]
 have hB1 := ((hg0.trans hg1).alloc (.cells #[.int .i64 3, .int .i64 0, .int .i64 1, .string ⟨#[]⟩, .string ⟨#[]⟩, .bool false, .slice none 0 0] 29)).below
 have hl1 : w.heap.size + 1 < w1.heap.size := (Blk.below hY hg1.below hY.lt).lt
 obtain ⟨p0, p1, p2, p3, p4, _⟩ := blk5 hP1
 obtain ⟨y0, y1, y2, y3, y4, y5, y6, _⟩ := blk7 hW1
 have hlw : w1.heap.size < (w1.alloc (.cells #[.int .i64 3, .int .i64 0, .int .i64 1, .string ⟨#[]⟩, .string ⟨#[]⟩, .bool false, .slice none 0 0] 29)).heap.size := hW1.lt
 clear hg0 hg1 hP hY hP1 hW1
 have hY2 := hY1
 have hB2 := hB1
 go_wp2_with fail
 clear p0 p1 p2 p3 p4 y0 y1 y2 y3 y4 y5 y6
 refine (rints_at 3 i 1 none [] 0 0 (by decide) (h1) (by decide) rfl (by decide) (fun v hv => by cases hv) _ (.inl rfl)).mono ?_
 rintro e w3 ⟨⟨rK, rlo, rhi, rf, rt, ro, rno⟩, hin, hrl, A7, n7, c7, rfl, hl7, hc7, ho7, hb7⟩
 dsimp only at hrl hl7 ho7
 have HP : Hid (IsOf ⟨n, 6, 3, i, []⟩ ⟨rK, rlo, rhi, rf, rt, ro, rno⟩) := of_N HR.out (.inr rfl) hin
 have hY3 := Blk.below hY2 hb7 hY2.lt
 have hB3 := below_next hB2 (Nat.le_refl _) hb7
 obtain ⟨u0, u1, u2, u3, u4, u5, u6, q0, q1, q2, q3, q4, q5, q6⟩ := blk7 hY3
 have hlY := hY3.lt
 have hlZ := hY2.lt
 have HL7 := Lib.hid hl7
 clear hin hb7 hl7
 go_wp2_with fail
 refine bodyPost_ret (v := spF rK rlo rhi rf rt ro A7 n7 c7) (by simp [results, Try.results45, go_sem, u0, u1, u2, u3, u4, u5, u6]) rfl ?_
 exact ⟨⟨rK, rlo, rhi, rf, rt, ro, rno⟩, HP.out, by show rno.length <= 1; have := HL7.out; omega, A7, n7, c7, rfl, HL7.out, hc7, (OwnK.put7 ho7 (by omega) _ _ _ _ _ _ _).less (by omega), below_put7 hB3 (by omega) _ _ _ _ _ _ _⟩
theorem rnumber_at (p : Pr) (hr : rightP p = true) (hk : p.k = 1 ∨ p.k = 3) (w : World) : Calls Try.prog 45 #[.agg #[.string ⟨p.n.toArray⟩, .int .i64 p.o, .int .i64 p.k, .int .i64 p.i, .string ⟨p.t.toArray⟩]] w (GivesS w (IsOf p) 1) := by
 obtain ⟨n, o, k, i, t⟩ := p
 dsimp only at *
 have h8 : o ≠ 8 := fun e => by
  subst e
  rcases rightP_cases hr with ⟨_, h, _⟩ | ⟨h, _⟩
  ·dsimp only at h; rcases hk with e | e <;> omega
  ·exact h rfl
 obtain rfl : t = [] := right_numT (rightP_side hr h8) hk
 rcases rightP_cases hr with ⟨h, _⟩ | ⟨_, h1, h2, _, _, h7⟩
 ·exact absurd h h8
 ·dsimp only at h1 h2 h7
  have h77 : o ≠ 7 := fun e => by have := h7 e; rcases hk with h | h <;> omega
  obtain rfl | rfl | rfl | rfl | rfl | rfl : o = 1 ∨ o = 2 ∨ o = 3 ∨ o = 4 ∨ o = 5 ∨ o = 6 := by omega
  ·rcases hk with rfl | rfl
   ·exact rnum_1_1 n i hr w
   ·exact rnum_1_3 n i hr w
  ·rcases hk with rfl | rfl
   ·exact rnum_2_1 n i hr w
   ·exact rnum_2_3 n i hr w
  ·rcases hk with rfl | rfl
   ·exact rnum_3_1 n i hr w
   ·exact rnum_3_3 n i hr w
  ·rcases hk with rfl | rfl
   ·exact rnum_4_1 n i hr w
   ·exact rnum_4_3 n i hr w
  ·rcases hk with rfl | rfl
   ·exact rnum_5_1 n i hr w
   ·exact rnum_5_3 n i hr w
  ·rcases hk with rfl | rfl
   ·exact rnum_6_1 n i hr w
   ·exact rnum_6_3 n i hr w
end Go.Proofs.Ytoffnfooeojhnaa
namespace Go.Proofs.Ytoffnfooeojhnaa
open Go.RowKit Go.Sort Spans Op
set_option maxRecDepth 100000 in
set_option maxHeartbeats 2000000 in
theorem rup_at (p : List UInt8) (hp : p.length <= 1000) (w : World) :
  Calls Try.prog 46 #[.string ⟨p.toArray⟩] w fun e w' => e = .returned (.tuple #[.string ⟨((Spans.up p).getD []).toArray⟩, .bool (Spans.up p).isSome]) /\ Below w.heap.size w w' := by
 have hz1 : (⟨p.toArray⟩ : ByteArray).size = p.length := by simp [ByteArray.size]
 go_enter Try.func46, Try.ntmps46
 go_wp2_with fail
 go_loopg [4] p.length (fun gg s4 wr => ∃ k : Nat, k <= p.length /\ k <= gg /\ s4 = .int .i64 (k : Int) /\ w = wr /\ Hid (Spans.up p = Spans.up (p.take k)))
 case atStart => exact ⟨p.length, Nat.le_refl _, Nat.le_refl _, rfl, rfl, by show _ = _; rw [List.take_length]⟩
 case round =>
  obtain ⟨k, hk, hgg, rfl, rfl, HU⟩ := hrel
  cases k with
  | zero =>
   have HN : Hid (Spans.up p = none) := by rw [HU.out, List.take_zero]; rfl
   go_wp2_with fail
   go_ret2
   refine ⟨?_, Below.refl _ _⟩
   rw [HN.out]
   rfl
  | succ q =>
   have hq : q < p.length := by omega
   obtain ⟨x, hx⟩ : ∃ x, p[q] = x := ⟨_, rfl⟩
   have hz2 : ∀ h, (⟨p.toArray⟩ : ByteArray)[q]'h = x := fun _ => hx
   have hwq : IntKind.i64.wrap (q : Int) = (q : Int) := by rw [IntKind.wrap_i64]; omega
   have hqq : (q : Int) < (p.length : Int) := by omega
   have hq1 : q <= p.length := by omega
   have hE : (⟨p.toArray⟩ : ByteArray).extract 0 q = ⟨(p.take q).toArray⟩ := by apply ByteArray.ext; simp [ByteArray.data_extract]
   have hT : p.take (q + 1) = p.take q ++ [x] := by rw [List.take_succ_eq_append_getElem hq, hx]
   have HT := Lib.hid hT
   clear hx hT
   by_cases hx5 : x = 255
   ·subst hx5
    have HU2 : Hid (Spans.up p = Spans.up (p.take q)) := by show _ = _; rw [HU.out, HT.out, up_ff]
    go_wp2_with fail
    go_roundg q
    case measure => omega
    case rel => exact ⟨q, by omega, Nat.le_refl _, by go_num, rfl, HU2⟩
   ·obtain ⟨y, hy⟩ : ∃ y, x + 1 = y := ⟨_, rfl⟩
    have HS : Hid (Spans.up p = some (p.take q ++ [y])) := by show _ = _; rw [HU.out, HT.out, up_last _ _ hx5, hy]
    have hxn : x.toNat ≠ 255 := fun e => hx5 (UInt8.toNat_inj.1 e)
    have hxl := x.toNat_lt
    have hd : (((x.toNat : Nat) : Int) == 255) = false := by simpa using (by omega : ¬ ((x.toNat : Nat) : Int) = 255)
    have HX1 : Hid (IntKind.u8.wrap (((x.toNat : Nat) : Int) + 1) = ((y.toNat : Nat) : Int)) := by
     show _ = _
     have : y.toNat = x.toNat + 1 := by rw [<- hy, UInt8.toNat_add]; simp; omega
     rw [this, IntKind.wrap_u8]
     omega
    clear hx5 hy
    go_wp2_with fail
    have hS0 : Below w.heap.size w w.drew := (Below.refl _ _).drew
    refine wp_region_held_drew (S := fun w' => Below w.heap.size w w') (by kernel_rfl) hS0 (fun _ => ?_)
    refine wpAnyH_yes (i := 0) (d := 20) (v := ?_) rfl rfl (by kernel_rfl) (by kernel_rfl) (by kernel_rfl) (fun _ _ _ h => h) (by rfl) ?_ hS0 ?_
    rotate_left
    ·intro w' hSw; skip; go_simp <;> with_reducible rfl
    simp only [Act.put, List.setIfInBounds_toArray, List.set_cons_zero, List.set_cons_succ]
    refine wpAnyH_yes (i := 1) (d := 21) (v := ?_) rfl rfl (by kernel_rfl) (by kernel_rfl) (by kernel_rfl) (fun _ _ _ h => h) (by rfl) ?_ hS0 ?_
    rotate_left
    ·intro w' hSw; skip; go_simp <;> with_reducible rfl
    simp only [Act.put, List.setIfInBounds_toArray, List.set_cons_zero, List.set_cons_succ]
    refine wpAnyH_yes (i := 2) (d := 22) (v := ?_) rfl rfl (by kernel_rfl) (by kernel_rfl) (by kernel_rfl) (fun _ _ _ h => h) (by rfl) ?_ hS0 ?_
    rotate_left
    ·intro w' hSw; skip; go_simp <;> with_reducible rfl
    simp only [Act.put, List.setIfInBounds_toArray, List.set_cons_zero, List.set_cons_succ]
    refine wpAnyH_yes (i := 3) (d := 23) (v := ?_) rfl rfl (by kernel_rfl) (by kernel_rfl) (by kernel_rfl) (fun _ _ _ h => h) (by rfl) ?_ hS0 ?_
    rotate_left
    ·intro w' hSw; skip; go_simp <;> with_reducible rfl
    simp only [Act.put, List.setIfInBounds_toArray, List.set_cons_zero, List.set_cons_succ]
    refine wpAnyH_yes (i := 4) (d := 24) (v := ?_) rfl rfl (by kernel_rfl) (by kernel_rfl) (by kernel_rfl) (fun _ _ _ h => h) (by rfl) ?_ hS0 ?_
    rotate_left
    ·intro w' hSw; skip; go_simp <;> with_reducible rfl
    simp only [Act.put, List.setIfInBounds_toArray, List.set_cons_zero, List.set_cons_succ]
    refine wpAnyH_yes (i := 5) (d := 25) (v := ?_) rfl rfl (by kernel_rfl) (by kernel_rfl) (by kernel_rfl) (fun _ _ _ h => h) (by rfl) ?_ hS0 ?_
    rotate_left
    ·intro w' hSw; skip; go_simp <;> with_reducible rfl
    simp only [Act.put, List.setIfInBounds_toArray, List.set_cons_zero, List.set_cons_succ]
    refine wpAnyH_yes (i := 6) (d := 26) (v := ?_) rfl rfl (by kernel_rfl) (by kernel_rfl) (by kernel_rfl) (fun _ _ _ h => h) (by rfl) ?_ hS0 ?_
    rotate_left
    ·intro w' hSw; skip; go_simp <;> with_reducible rfl
    simp only [Act.put, List.setIfInBounds_toArray, List.set_cons_zero, List.set_cons_succ]
    refine wpAnyH_yes (i := 7) (d := 27) (v := ?_) rfl rfl (by kernel_rfl) (by kernel_rfl) (by kernel_rfl) (fun _ _ _ h => h) (by rfl) ?_ hS0 ?_
    rotate_left
    ·intro w' hSw; skip; go_simp <;> with_reducible rfl
    simp only [Act.put, List.setIfInBounds_toArray, List.set_cons_zero, List.set_cons_succ]
    refine wpAnyH_yes (i := 8) (d := 28) (v := .int .u8 ((y.toNat : Nat) : Int)) rfl rfl (by kernel_rfl) (by kernel_rfl) (by kernel_rfl) (fun _ _ _ h => h) (by rfl) ?_ hS0 ?_
    ·intro w' hSw; skip; go_simp
     exact HX1.out
    simp only [Act.put, List.setIfInBounds_toArray, List.set_cons_zero, List.set_cons_succ]
    refine wpAnyH_one (i := 9) (by kernel_rfl) rfl (by rfl) (fun Ka hKa => ?_)
    go_simp
    have hbb : Below w.heap.size w (w.alloc (.cells #[.int .u8 ((y.toNat : Nat) : Int)] 5)).drew := ((Below.refl _ _).alloc (Nat.le_refl _) _).drew
    have hRd : Rd (w.alloc (.cells #[.int .u8 ((y.toNat : Nat) : Int)] 5)).drew (some ⟨w.heap.size, 0, none⟩) [y] := Blk.rd (bs := [y]) (Blk.new w 5 #[.int .u8 ((y.toNat : Nat) : Int)])
    refine hKa.out _ _ hbb ?_
    clear hKa Ka
    generalize (w.alloc (.cells #[.int .u8 ((y.toNat : Nat) : Int)] 5)).drew = w2 at *
    have hst := run_str (P := Try.prog) w2 (some ⟨w.heap.size, 0, none⟩) [y] 1 1 hRd rfl 67 5 9 Try.underlying67 Try.underlying5 Try.underlying9
    refine wpAnyH_one (i := 10) (by kernel_rfl) rfl (by rfl) (fun Ka hKa => ?_)
    go_simp
    refine hKa.out _ _ hbb ?_
    clear hKa Ka
    have hC : ((⟨(p.take q).toArray⟩ : ByteArray) ++ (⟨#[y]⟩ : ByteArray)) = ⟨(p.take q ++ [y]).toArray⟩ := by apply ByteArray.ext; simp
    refine wpAnyH_one (i := 11) (by kernel_rfl) rfl (by rfl) (fun Ka hKa => ?_)
    go_simp
    rw [if_neg (by omega)]
    go_simp
    refine hKa.out _ _ hbb ?_
    clear hKa Ka
    refine wpAnyH_one (i := 12) (by kernel_rfl) rfl (by rfl) (fun Ka hKa => ?_)
    go_simp
    skip
    skip
    refine hKa.out _ _ hbb ?_
    clear hKa Ka
    refine wpAnyH_one (i := 13) (by kernel_rfl) rfl (by rfl) (fun Ka hKa => ?_)
    go_simp
    skip
    skip
    refine hKa.out _ _ hbb ?_
    clear hKa Ka
    refine wpAnyH_done (by kernel_rfl) ?_ _
    go_wp2_with fail
    go_ret2
    refine ⟨?_, hbb⟩
    rw [HS.out]
    rfl
end Go.Proofs.Ytoffnfooeojhnaa
