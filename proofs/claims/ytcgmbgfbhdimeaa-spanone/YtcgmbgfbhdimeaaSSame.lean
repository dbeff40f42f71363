/- Spans alike: the program's same, the document's Same; rows of values, rows of predicates. -/
import Derived.Test.YtcgmbgfbhdimeaaSHas
namespace Go.Proofs.Ytcgmbgfbhdimeaa
open Go.RowKit Spans Op
instance : DecidableEq Sp := fun a b => decidable_of_iff (a.kind = b.kind ∧ a.lo = b.lo ∧ a.hi = b.hi ∧ a.frm = b.frm ∧ a.to_ = b.to_ ∧ a.opn = b.opn ∧ a.no = b.no) (by cases a; cases b; simp)
theorem eqGuardQ : Try.prog.eqGuardType Try.prog.depth 40 = false := by kernel_rfl
set_option maxRecDepth 100000 in
set_option maxHeartbeats 1000000 in
theorem valuesV_at (A : Option Addr) (es : List Val) (n cap : Nat) (hn : es.length = n) (hm : n ≤ 100000) (A' : Option Addr) (fs : List Val) (n' cap' : Nat) (hn' : fs.length = n') (hm' : n' ≤ 100000) (w : World) (hr : RdW w A es) (hr' : RdW w A' fs) (b : Bool) (hb : decide (es = fs) = b) :
    Calls Try.prog 34 #[.slice A n cap, .slice A' n' cap'] w fun e w' => e = .returned (.bool b) ∧ Grown w w' := by
  subst hb
  have hG := eqGuardV
  have HN := Lib.hid hn
  have HN' := Lib.hid hn'
  have HR := Lib.hid hr
  have HR' := Lib.hid hr'
  clear hn hn' hr hr'
  by_cases hne : n = n'
  · subst hne
    go_enter Try.func34, Try.ntmps34
    go_wp2_with fail
    go_loopg [5] n (fun gg s8 wr => ∃ k : Nat, k ≤ n ∧ n - k ≤ gg ∧ s8 = .int .i64 (k : Int) ∧ Hid (Grown w wr) ∧ Hid (es.take k = fs.take k))
    case atStart => exact ⟨0, Nat.zero_le _, by omega, rfl, Grown.refl w, by show _ = _; simp⟩
    case round =>
      obtain ⟨k, hk, hgg, rfl, HG, HA⟩ := hrel
      by_cases hlt : k < n
      · have hk' : k < es.length := by rw [HN.out]; exact hlt
        have hk2 : k < fs.length := by rw [HN'.out]; exact hlt
        obtain ⟨g, off, rfl, hg, c0, c1, c2⟩ := RdW.at3 (HR.out.below HG.out.below) hk'
        obtain ⟨g', off', rfl, hg', b0, b1, b2⟩ := RdW.at3 (HR'.out.below HG.out.below) hk2
        obtain ⟨x, hx⟩ : ∃ x, es[k] = x := ⟨_, rfl⟩
        obtain ⟨y, hy⟩ : ∃ y, fs[k] = y := ⟨_, rfl⟩
        have HX := Lib.hid hx
        have HY := Lib.hid hy
        rw [hx] at c0 c1 c2
        rw [hy] at b0 b1 b2
        clear hx hy
        obtain ⟨xk, xi, xt⟩ := x
        obtain ⟨yk, yi, yt⟩ := y
        have w5 : (k : Int) < (n : Int) := by omega
        go_wp2_with fail
        refine wp_region_held_drew (S := fun w' => w' = wr.drew) (by kernel_rfl) rfl (fun _ => ?_)
        refine wpAnyH_yes (i := 0) (d := 17) (v := ?_) rfl rfl (by kernel_rfl) (by kernel_rfl) (by kernel_rfl) (fun _ _ _ h => h) (by rfl) ?_ rfl ?_
        rotate_left
        · intro w' hSw; subst hSw; go_simp <;> with_reducible rfl
        simp only [Act.put, List.setIfInBounds_toArray, List.set_cons_zero, List.set_cons_succ]
        refine wpAnyH_yes (i := 1) (d := 18) (v := ?_) rfl rfl (by kernel_rfl) (by kernel_rfl) (by kernel_rfl) (fun _ _ _ h => h) (by rfl) ?_ rfl ?_
        rotate_left
        · intro w' hSw; subst hSw; go_simp <;> with_reducible rfl
        simp only [Act.put, List.setIfInBounds_toArray, List.set_cons_zero, List.set_cons_succ]
        refine wpAnyH_yes (i := 2) (d := 19) (v := ?_) rfl rfl (by kernel_rfl) (by kernel_rfl) (by kernel_rfl) (fun _ _ _ h => h) (by rfl) ?_ rfl ?_
        rotate_left
        · intro w' hSw; subst hSw; go_simp <;> with_reducible rfl
        simp only [Act.put, List.setIfInBounds_toArray, List.set_cons_zero, List.set_cons_succ]
        refine wpAnyH_yes (i := 3) (d := 20) (v := ?_) rfl rfl (by kernel_rfl) (by kernel_rfl) (by kernel_rfl) (fun _ _ _ h => h) (by rfl) ?_ rfl ?_
        rotate_left
        · intro w' hSw; subst hSw; go_simp <;> with_reducible rfl
        simp only [Act.put, List.setIfInBounds_toArray, List.set_cons_zero, List.set_cons_succ]
        refine wpAnyH_yes (i := 4) (d := 21) (v := ?_) rfl rfl (by kernel_rfl) (by kernel_rfl) (by kernel_rfl) (fun _ _ _ h => h) (by rfl) ?_ rfl ?_
        rotate_left
        · intro w' hSw; subst hSw; go_simp <;> with_reducible rfl
        simp only [Act.put, List.setIfInBounds_toArray, List.set_cons_zero, List.set_cons_succ]
        refine wpAnyH_yes (i := 5) (d := 22) (v := ?_) rfl rfl (by kernel_rfl) (by kernel_rfl) (by kernel_rfl) (fun _ _ _ h => h) (by rfl) ?_ rfl ?_
        rotate_left
        · intro w' hSw; subst hSw; go_simp <;> with_reducible rfl
        simp only [Act.put, List.setIfInBounds_toArray, List.set_cons_zero, List.set_cons_succ]
        refine wpAnyH_yes (i := 6) (d := 23) (v := ?_) rfl rfl (by kernel_rfl) (by kernel_rfl) (by kernel_rfl) (fun _ _ _ h => h) (by rfl) ?_ rfl ?_
        rotate_left
        · intro w' hSw; subst hSw; go_simp <;> with_reducible rfl
        simp only [Act.put, List.setIfInBounds_toArray, List.set_cons_zero, List.set_cons_succ]
        refine wpAnyH_yes (i := 7) (d := 24) (v := ?_) rfl rfl (by kernel_rfl) (by kernel_rfl) (by kernel_rfl) (fun _ _ _ h => h) (by rfl) ?_ rfl ?_
        rotate_left
        · intro w' hSw; subst hSw; go_simp <;> with_reducible rfl
        simp only [Act.put, List.setIfInBounds_toArray, List.set_cons_zero, List.set_cons_succ]
        refine wpAnyH_yes (i := 8) (d := 25) (v := .bool (!decide ((⟨xk, xi, xt⟩ : Val) = (⟨yk, yi, yt⟩ : Val)))) rfl rfl (by kernel_rfl) (by kernel_rfl) (by kernel_rfl) (fun _ _ _ h => h) (by rfl) ?_ rfl ?_
        · intro w' hSw; subst hSw; go_simp
          by_cases a1 : xk = yk <;> by_cases a2 : xi = yi <;> by_cases a3 : xt = yt <;> simp [a1, a2, a3]
        simp only [Act.put, List.setIfInBounds_toArray, List.set_cons_zero, List.set_cons_succ]
        refine wpAnyH_done (by kernel_rfl) ?_ _
        clear c0 c1 c2 b0 b1 b2 w5
        by_cases hxy : (⟨xk, xi, xt⟩ : Val) = (⟨yk, yi, yt⟩ : Val)
        · have hd : (!decide ((⟨xk, xi, xt⟩ : Val) = (⟨yk, yi, yt⟩ : Val))) = false := by rw [decide_eq_true hxy]; rfl
          rw [hd]
          have HQ : Hid (es.take (k + 1) = fs.take (k + 1)) := by
            show _ = _
            rw [List.take_succ_eq_append_getElem hk', List.take_succ_eq_append_getElem hk2, HX.out, HY.out, HA.out, hxy]
          clear hd hxy HX HY
          go_wp2_with fail
          go_roundg (n - (k + 1))
          case measure => omega
          case rel => exact ⟨k + 1, by omega, Nat.le_refl _, by go_num, HG.out.drew, HQ⟩
        · have hd : (!decide ((⟨xk, xi, xt⟩ : Val) = (⟨yk, yi, yt⟩ : Val))) = true := by rw [decide_eq_false hxy]; rfl
          rw [hd]
          have HQ : Hid (es ≠ fs) := by
            show _ ≠ _
            intro e
            subst e
            exact hxy (HX.out.symm.trans HY.out)
          clear hd hxy HX HY
          go_wp2_with fail
          go_ret
          exact ⟨ret_b (decide_eq_false HQ.out).symm, HG.out.drew⟩
      · have hkn : Hid (k = n) := by show k = n; omega
        go_wp2_with fail
        go_ret
        refine ⟨ret_b (decide_eq_true ?_).symm, HG.out⟩
        have := HA.out
        rwa [hkn.out, List.take_of_length_le (by rw [HN.out]; exact Nat.le_refl _), List.take_of_length_le (by rw [HN'.out]; exact Nat.le_refl _)] at this
  · have v1 : ((n : Int) == (n' : Int)) = false := beq_eq_false_iff_ne.2 (by omega)
    go_enter Try.func34, Try.ntmps34
    go_wp2_with fail
    go_ret
    exact ⟨ret_b (decide_eq_false fun e => hne (by rw [← HN.out, ← HN'.out, e])).symm, Grown.refl _⟩
set_option maxRecDepth 100000 in
set_option maxHeartbeats 1000000 in
theorem samePs_at (A : Option Addr) (es : List Pr) (n cap : Nat) (hn : es.length = n) (hm : n ≤ 100000) (A' : Option Addr) (fs : List Pr) (n' cap' : Nat) (hn' : fs.length = n') (hm' : n' ≤ 100000) (w : World) (hr : RdQ w A es) (hr' : RdQ w A' fs) (b : Bool) (hb : decide (es = fs) = b) :
    Calls Try.prog 20 #[.slice A n cap, .slice A' n' cap'] w fun e w' => e = .returned (.bool b) ∧ Grown w w' := by
  subst hb
  have hG := eqGuardQ
  have HN := Lib.hid hn
  have HN' := Lib.hid hn'
  have HR := Lib.hid hr
  have HR' := Lib.hid hr'
  clear hn hn' hr hr'
  by_cases hne : n = n'
  · subst hne
    go_enter Try.func20, Try.ntmps20
    go_wp2_with fail
    go_loopg [5] n (fun gg s8 wr => ∃ k : Nat, k ≤ n ∧ n - k ≤ gg ∧ s8 = .int .i64 (k : Int) ∧ Hid (Grown w wr) ∧ Hid (es.take k = fs.take k))
    case atStart => exact ⟨0, Nat.zero_le _, by omega, rfl, Grown.refl w, by show _ = _; simp⟩
    case round =>
      obtain ⟨k, hk, hgg, rfl, HG, HA⟩ := hrel
      by_cases hlt : k < n
      · have hk' : k < es.length := by rw [HN.out]; exact hlt
        have hk2 : k < fs.length := by rw [HN'.out]; exact hlt
        obtain ⟨g, off, rfl, hg, c0, c1, c2, c3, c4⟩ := RdQ.at5 (HR.out.below HG.out.below) hk'
        obtain ⟨g', off', rfl, hg', b0, b1, b2, b3, b4⟩ := RdQ.at5 (HR'.out.below HG.out.below) hk2
        obtain ⟨x, hx⟩ : ∃ x, es[k] = x := ⟨_, rfl⟩
        obtain ⟨y, hy⟩ : ∃ y, fs[k] = y := ⟨_, rfl⟩
        have HX := Lib.hid hx
        have HY := Lib.hid hy
        rw [hx] at c0 c1 c2 c3 c4
        rw [hy] at b0 b1 b2 b3 b4
        clear hx hy
        obtain ⟨xn, xo, xk, xi, xt⟩ := x
        obtain ⟨yn, yo, yk, yi, yt⟩ := y
        have w5 : (k : Int) < (n : Int) := by omega
        go_wp2_with fail
        refine wp_region_held_drew (S := fun w' => w' = wr.drew) (by kernel_rfl) rfl (fun _ => ?_)
        refine wpAnyH_yes (i := 0) (d := 17) (v := ?_) rfl rfl (by kernel_rfl) (by kernel_rfl) (by kernel_rfl) (fun _ _ _ h => h) (by rfl) ?_ rfl ?_
        rotate_left
        · intro w' hSw; subst hSw; go_simp <;> with_reducible rfl
        simp only [Act.put, List.setIfInBounds_toArray, List.set_cons_zero, List.set_cons_succ]
        refine wpAnyH_yes (i := 1) (d := 18) (v := ?_) rfl rfl (by kernel_rfl) (by kernel_rfl) (by kernel_rfl) (fun _ _ _ h => h) (by rfl) ?_ rfl ?_
        rotate_left
        · intro w' hSw; subst hSw; go_simp <;> with_reducible rfl
        simp only [Act.put, List.setIfInBounds_toArray, List.set_cons_zero, List.set_cons_succ]
        refine wpAnyH_yes (i := 2) (d := 19) (v := ?_) rfl rfl (by kernel_rfl) (by kernel_rfl) (by kernel_rfl) (fun _ _ _ h => h) (by rfl) ?_ rfl ?_
        rotate_left
        · intro w' hSw; subst hSw; go_simp <;> with_reducible rfl
        simp only [Act.put, List.setIfInBounds_toArray, List.set_cons_zero, List.set_cons_succ]
        refine wpAnyH_yes (i := 3) (d := 20) (v := ?_) rfl rfl (by kernel_rfl) (by kernel_rfl) (by kernel_rfl) (fun _ _ _ h => h) (by rfl) ?_ rfl ?_
        rotate_left
        · intro w' hSw; subst hSw; go_simp <;> with_reducible rfl
        simp only [Act.put, List.setIfInBounds_toArray, List.set_cons_zero, List.set_cons_succ]
        refine wpAnyH_yes (i := 4) (d := 21) (v := ?_) rfl rfl (by kernel_rfl) (by kernel_rfl) (by kernel_rfl) (fun _ _ _ h => h) (by rfl) ?_ rfl ?_
        rotate_left
        · intro w' hSw; subst hSw; go_simp <;> with_reducible rfl
        simp only [Act.put, List.setIfInBounds_toArray, List.set_cons_zero, List.set_cons_succ]
        refine wpAnyH_yes (i := 5) (d := 22) (v := ?_) rfl rfl (by kernel_rfl) (by kernel_rfl) (by kernel_rfl) (fun _ _ _ h => h) (by rfl) ?_ rfl ?_
        rotate_left
        · intro w' hSw; subst hSw; go_simp <;> with_reducible rfl
        simp only [Act.put, List.setIfInBounds_toArray, List.set_cons_zero, List.set_cons_succ]
        refine wpAnyH_yes (i := 6) (d := 23) (v := ?_) rfl rfl (by kernel_rfl) (by kernel_rfl) (by kernel_rfl) (fun _ _ _ h => h) (by rfl) ?_ rfl ?_
        rotate_left
        · intro w' hSw; subst hSw; go_simp <;> with_reducible rfl
        simp only [Act.put, List.setIfInBounds_toArray, List.set_cons_zero, List.set_cons_succ]
        refine wpAnyH_yes (i := 7) (d := 24) (v := ?_) rfl rfl (by kernel_rfl) (by kernel_rfl) (by kernel_rfl) (fun _ _ _ h => h) (by rfl) ?_ rfl ?_
        rotate_left
        · intro w' hSw; subst hSw; go_simp <;> with_reducible rfl
        simp only [Act.put, List.setIfInBounds_toArray, List.set_cons_zero, List.set_cons_succ]
        refine wpAnyH_yes (i := 8) (d := 25) (v := .bool (!decide ((⟨xn, xo, xk, xi, xt⟩ : Pr) = (⟨yn, yo, yk, yi, yt⟩ : Pr)))) rfl rfl (by kernel_rfl) (by kernel_rfl) (by kernel_rfl) (fun _ _ _ h => h) (by rfl) ?_ rfl ?_
        · intro w' hSw; subst hSw; go_simp
          by_cases a0 : xn = yn <;> by_cases a4 : xo = yo <;> by_cases a1 : xk = yk <;> by_cases a2 : xi = yi <;> by_cases a3 : xt = yt <;> simp [a0, a1, a2, a3, a4]
        simp only [Act.put, List.setIfInBounds_toArray, List.set_cons_zero, List.set_cons_succ]
        refine wpAnyH_done (by kernel_rfl) ?_ _
        clear c0 c1 c2 c3 c4 b0 b1 b2 b3 b4 w5
        by_cases hxy : (⟨xn, xo, xk, xi, xt⟩ : Pr) = (⟨yn, yo, yk, yi, yt⟩ : Pr)
        · have hd : (!decide ((⟨xn, xo, xk, xi, xt⟩ : Pr) = (⟨yn, yo, yk, yi, yt⟩ : Pr))) = false := by rw [decide_eq_true hxy]; rfl
          rw [hd]
          have HQ : Hid (es.take (k + 1) = fs.take (k + 1)) := by
            show _ = _
            rw [List.take_succ_eq_append_getElem hk', List.take_succ_eq_append_getElem hk2, HX.out, HY.out, HA.out, hxy]
          clear hd hxy HX HY
          go_wp2_with fail
          go_roundg (n - (k + 1))
          case measure => omega
          case rel => exact ⟨k + 1, by omega, Nat.le_refl _, by go_num, HG.out.drew, HQ⟩
        · have hd : (!decide ((⟨xn, xo, xk, xi, xt⟩ : Pr) = (⟨yn, yo, yk, yi, yt⟩ : Pr))) = true := by rw [decide_eq_false hxy]; rfl
          rw [hd]
          have HQ : Hid (es ≠ fs) := by
            show _ ≠ _
            intro e
            subst e
            exact hxy (HX.out.symm.trans HY.out)
          clear hd hxy HX HY
          go_wp2_with fail
          go_ret
          exact ⟨ret_b (decide_eq_false HQ.out).symm, HG.out.drew⟩
      · have hkn : Hid (k = n) := by show k = n; omega
        go_wp2_with fail
        go_ret
        refine ⟨ret_b (decide_eq_true ?_).symm, HG.out⟩
        have := HA.out
        rwa [hkn.out, List.take_of_length_le (by rw [HN.out]; exact Nat.le_refl _), List.take_of_length_le (by rw [HN'.out]; exact Nat.le_refl _)] at this
  · have v1 : ((n : Int) == (n' : Int)) = false := beq_eq_false_iff_ne.2 (by omega)
    go_enter Try.func20, Try.ntmps20
    go_wp2_with fail
    go_ret
    exact ⟨ret_b (decide_eq_false fun e => hne (by rw [← HN.out, ← HN'.out, e])).symm, Grown.refl _⟩
set_option maxRecDepth 100000 in
set_option maxHeartbeats 2000000 in
theorem refSame_at (K lo hi : Int) (f t : List UInt8) (o : Bool) (A : Option Addr) (n c : Nat) (K' lo' hi' : Int) (f' t' : List UInt8) (o' : Bool) (A' : Option Addr) (n' c' : Nat) (w : World) (es fs : List Val) (hn : es.length = n) (hm : n ≤ 100000) (hn' : fs.length = n') (hm' : n' ≤ 100000) (hr : RdW w A es) (hr' : RdW w A' fs) :
    Calls Try.prog 14 #[spF K lo hi f t o A n c, spF K' lo' hi' f' t' o' A' n' c'] w fun e w' => e = .returned (.bool (decide ((⟨K, lo, hi, f, t, o, es⟩ : Sp) = ⟨K', lo', hi', f', t', o', fs⟩))) ∧ Grown w w' := by
  have HN := Lib.hid hn
  have HN' := Lib.hid hn'
  have hG0 := gr2 w (.cells #[.int .i64 K, .int .i64 lo, .int .i64 hi, .string ⟨f.toArray⟩, .string ⟨t.toArray⟩, .bool o, .slice A n c] 29) (.cells #[.int .i64 K', .int .i64 lo', .int .i64 hi', .string ⟨f'.toArray⟩, .string ⟨t'.toArray⟩, .bool o', .slice A' n' c'] 29)
  have HR := Lib.hid (hr.below hG0.below)
  have HR' := Lib.hid (hr'.below hG0.below)
  clear hn hn' hr hr' hG0
  go_enter Try.func14, Try.ntmps14
  by_cases hK : K = K'
  rotate_left
  · have v : (K == K') = false := beq_eq_false_iff_ne.2 hK
    go_wp2_with fail
    go_ret
    exact ⟨ret_b (decide_eq_false fun e => hK (congrArg Sp.kind e)).symm, gr2 _ _ _⟩
  subst hK
  by_cases hlo : lo = lo'
  rotate_left
  · have v : (lo == lo') = false := beq_eq_false_iff_ne.2 hlo
    go_wp2_with fail
    go_ret
    exact ⟨ret_b (decide_eq_false fun e => hlo (congrArg Sp.lo e)).symm, gr2 _ _ _⟩
  subst hlo
  by_cases hhi : hi = hi'
  rotate_left
  · have v : (hi == hi') = false := beq_eq_false_iff_ne.2 hhi
    go_wp2_with fail
    go_ret
    exact ⟨ret_b (decide_eq_false fun e => hhi (congrArg Sp.hi e)).symm, gr2 _ _ _⟩
  subst hhi
  by_cases hf : f = f'
  rotate_left
  · have v : (f == f') = false := beq_eq_false_iff_ne.2 hf
    go_wp2_with fail
    go_ret
    exact ⟨ret_b (decide_eq_false fun e => hf (congrArg Sp.frm e)).symm, gr2 _ _ _⟩
  subst hf
  by_cases ht : t = t'
  rotate_left
  · have v : (t == t') = false := beq_eq_false_iff_ne.2 ht
    go_wp2_with fail
    go_ret
    exact ⟨ret_b (decide_eq_false fun e => ht (congrArg Sp.to_ e)).symm, gr2 _ _ _⟩
  subst ht
  by_cases ho : o = o'
  rotate_left
  · have v : (o == o') = false := beq_eq_false_iff_ne.2 ho
    go_wp2_with fail
    go_ret
    exact ⟨ret_b (decide_eq_false fun e => ho (congrArg Sp.opn e)).symm, gr2 _ _ _⟩
  subst ho
  go_wp2_with fail
  refine (valuesV_at A es n c HN.out hm A' fs n' c' HN'.out hm' _ HR.out HR'.out _ rfl).mono ?_
  rintro e w2 ⟨rfl, hg⟩
  go_wp2_with fail
  go_ret
  refine ⟨ret_b ?_, (gr2 _ _ _).trans hg⟩
  by_cases h : es = fs <;> simp [h]
set_option maxRecDepth 100000 in
set_option maxHeartbeats 2000000 in
theorem spSame_at (K lo hi : Int) (f t : List UInt8) (o : Bool) (A : Option Addr) (n c : Nat) (K' lo' hi' : Int) (f' t' : List UInt8) (o' : Bool) (A' : Option Addr) (n' c' : Nat) (w : World) (es fs : List Val) (hn : es.length = n) (hm : n ≤ 100000) (hn' : fs.length = n') (hm' : n' ≤ 100000) (hr : RdW w A es) (hr' : RdW w A' fs) :
    Calls Try.prog 38 #[spF K lo hi f t o A n c, spF K' lo' hi' f' t' o' A' n' c'] w fun e w' => e = .returned (.bool (decide ((⟨K, lo, hi, f, t, o, es⟩ : Sp) = ⟨K', lo', hi', f', t', o', fs⟩))) ∧ Grown w w' := by
  have HN := Lib.hid hn
  have HN' := Lib.hid hn'
  have hG0 := gr2 w (.cells #[.int .i64 K, .int .i64 lo, .int .i64 hi, .string ⟨f.toArray⟩, .string ⟨t.toArray⟩, .bool o, .slice A n c] 29) (.cells #[.int .i64 K', .int .i64 lo', .int .i64 hi', .string ⟨f'.toArray⟩, .string ⟨t'.toArray⟩, .bool o', .slice A' n' c'] 29)
  have HR := Lib.hid (hr.below hG0.below)
  have HR' := Lib.hid (hr'.below hG0.below)
  clear hn hn' hr hr' hG0
  go_enter Try.func38, Try.ntmps38
  by_cases hK : K = K'
  rotate_left
  · have v : (K == K') = false := beq_eq_false_iff_ne.2 hK
    go_wp2_with fail
    go_ret
    exact ⟨ret_b (decide_eq_false fun e => hK (congrArg Sp.kind e)).symm, gr2 _ _ _⟩
  subst hK
  by_cases hlo : lo = lo'
  rotate_left
  · have v : (lo == lo') = false := beq_eq_false_iff_ne.2 hlo
    go_wp2_with fail
    go_ret
    exact ⟨ret_b (decide_eq_false fun e => hlo (congrArg Sp.lo e)).symm, gr2 _ _ _⟩
  subst hlo
  by_cases hhi : hi = hi'
  rotate_left
  · have v : (hi == hi') = false := beq_eq_false_iff_ne.2 hhi
    go_wp2_with fail
    go_ret
    exact ⟨ret_b (decide_eq_false fun e => hhi (congrArg Sp.hi e)).symm, gr2 _ _ _⟩
  subst hhi
  by_cases hf : f = f'
  rotate_left
  · have v : (f == f') = false := beq_eq_false_iff_ne.2 hf
    go_wp2_with fail
    go_ret
    exact ⟨ret_b (decide_eq_false fun e => hf (congrArg Sp.frm e)).symm, gr2 _ _ _⟩
  subst hf
  by_cases ht : t = t'
  rotate_left
  · have v : (t == t') = false := beq_eq_false_iff_ne.2 ht
    go_wp2_with fail
    go_ret
    exact ⟨ret_b (decide_eq_false fun e => ht (congrArg Sp.to_ e)).symm, gr2 _ _ _⟩
  subst ht
  by_cases ho : o = o'
  rotate_left
  · have v : (o == o') = false := beq_eq_false_iff_ne.2 ho
    go_wp2_with fail
    go_ret
    exact ⟨ret_b (decide_eq_false fun e => ho (congrArg Sp.opn e)).symm, gr2 _ _ _⟩
  subst ho
  go_wp2_with fail
  refine (equalV_at A es n c HN.out hm A' fs n' c' HN'.out hm' _ HR.out HR'.out _ rfl).mono ?_
  rintro e w2 ⟨rfl, hg⟩
  go_wp2_with fail
  go_ret
  refine ⟨ret_b ?_, (gr2 _ _ _).trans hg⟩
  by_cases h : es = fs <;> simp [h]
end Go.Proofs.Ytcgmbgfbhdimeaa
