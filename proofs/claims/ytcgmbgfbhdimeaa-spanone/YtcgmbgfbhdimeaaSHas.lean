/- slices.Index, slices.Contains and slices.Equal over values. -/
import Derived.Test.YtcgmbgfbhdimeaaSEnd
import Derived.Test.YtcgmbgfbhdimeaaVComp
import Derived.Lib.Hide
import Derived.Deep.LoopGhost
namespace Go.Proofs.Ytcgmbgfbhdimeaa
open Go.RowKit Spans Op
theorem takeS {es : List Val} {p : Nat} (h : p < es.length) : es.take (p + 1) = es.take p ++ [es[p]] := List.take_succ_eq_append_getElem h
set_option maxRecDepth 100000 in
set_option maxHeartbeats 1000000 in
theorem indexV_at (A : Option Addr) (es : List Val) (n cap : Nat) (hn : es.length = n) (hm : n ≤ 100000) (yk yi : Int) (yt : List UInt8) (w : World) (hr : RdW w A es) :
    Calls Try.prog 66 #[.slice A n cap, .agg #[.int .i64 yk, .int .i64 yi, .string ⟨yt.toArray⟩]] w fun e w' => ∃ r, e = .returned (.int .i64 r) ∧ (0 ≤ r ↔ (⟨yk, yi, yt⟩ : Val) ∈ es) ∧ Grown w w' := by
  have HN := Lib.hid hn
  have hB := Blk.new w 24 #[.int .i64 yk, .int .i64 yi, .string ⟨yt.toArray⟩]
  have HG0 := Lib.hid (gr1 w (.cells #[.int .i64 yk, .int .i64 yi, .string ⟨yt.toArray⟩] 24))
  have hr1 := hr.below HG0.out.below
  clear hn hr
  go_enter Try.func66, Try.ntmps66
  go_wp2_with fail
  generalize w.heap.size = g0 at *
  generalize w.alloc (.cells #[.int .i64 yk, .int .i64 yi, .string ⟨yt.toArray⟩] 24) = w1 at *
  go_loopg [8] n (fun gg s8 wr => ∃ k : Nat, k ≤ n ∧ n - k ≤ gg ∧ s8 = .int .i64 (k : Int) ∧ Hid (Grown w1 wr) ∧ Hid ((⟨yk, yi, yt⟩ : Val) ∉ es.take k))
  case atStart => exact ⟨0, Nat.zero_le _, by omega, rfl, Grown.refl w1, by show _ ∉ _; simp⟩
  case round =>
    obtain ⟨k, hk, hgg, rfl, HG, HA⟩ := hrel
    by_cases hlt : k < n
    · have hk' : k < es.length := by rw [HN.out]; exact hlt
      obtain ⟨g, off, rfl, hg, c0, c1, c2⟩ := RdW.at3 (hr1.below HG.out.below) hk'
      obtain ⟨b0, b1, b2, _⟩ := blk3 (Blk.below hB HG.out.below hB.lt)
      obtain ⟨x, hx⟩ : ∃ x, es[k] = x := ⟨_, rfl⟩
      have HX := Lib.hid hx
      rw [hx] at c0 c1 c2
      clear hx hr1 hB
      obtain ⟨xk, xi, xt⟩ := x
      have w5 : (k : Int) < (n : Int) := by omega
      go_wp2_with fail
      refine wp_region_held_drew (S := fun w' => w' = wr.drew) (by kernel_rfl) rfl (fun _ => ?_)
      refine wpAnyH_yes (i := 0) (d := 11) (v := ?_) rfl rfl (by kernel_rfl) (by kernel_rfl) (by kernel_rfl) (fun _ _ _ h => h) (by rfl) ?_ rfl ?_
      rotate_left
      · intro w' hSw; subst hSw; go_simp <;> with_reducible rfl
      simp only [Act.put, List.setIfInBounds_toArray, List.set_cons_zero, List.set_cons_succ]
      refine wpAnyH_yes (i := 1) (d := 12) (v := ?_) rfl rfl (by kernel_rfl) (by kernel_rfl) (by kernel_rfl) (fun _ _ _ h => h) (by rfl) ?_ rfl ?_
      rotate_left
      · intro w' hSw; subst hSw; go_simp <;> with_reducible rfl
      simp only [Act.put, List.setIfInBounds_toArray, List.set_cons_zero, List.set_cons_succ]
      refine wpAnyH_yes (i := 2) (d := 13) (v := ?_) rfl rfl (by kernel_rfl) (by kernel_rfl) (by kernel_rfl) (fun _ _ _ h => h) (by rfl) ?_ rfl ?_
      rotate_left
      · intro w' hSw; subst hSw; go_simp <;> with_reducible rfl
      simp only [Act.put, List.setIfInBounds_toArray, List.set_cons_zero, List.set_cons_succ]
      refine wpAnyH_yes (i := 3) (d := 14) (v := ?_) rfl rfl (by kernel_rfl) (by kernel_rfl) (by kernel_rfl) (fun _ _ _ h => h) (by rfl) ?_ rfl ?_
      rotate_left
      · intro w' hSw; subst hSw; go_simp <;> with_reducible rfl
      simp only [Act.put, List.setIfInBounds_toArray, List.set_cons_zero, List.set_cons_succ]
      refine wpAnyH_yes (i := 4) (d := 15) (v := ?_) rfl rfl (by kernel_rfl) (by kernel_rfl) (by kernel_rfl) (fun _ _ _ h => h) (by rfl) ?_ rfl ?_
      rotate_left
      · intro w' hSw; subst hSw; go_simp <;> with_reducible rfl
      simp only [Act.put, List.setIfInBounds_toArray, List.set_cons_zero, List.set_cons_succ]
      refine wpAnyH_yes (i := 5) (d := 16) (v := .bool (decide ((⟨yk, yi, yt⟩ : Val) = (⟨xk, xi, xt⟩ : Val)))) rfl rfl (by kernel_rfl) (by kernel_rfl) (by kernel_rfl) (fun _ _ _ h => h) (by rfl) ?_ rfl ?_
      · intro w' hSw; subst hSw; go_simp
        by_cases a1 : yk = xk <;> by_cases a2 : yi = xi <;> by_cases a3 : yt = xt <;> simp [a1, a2, a3]
      simp only [Act.put, List.setIfInBounds_toArray, List.set_cons_zero, List.set_cons_succ]
      refine wpAnyH_done (by kernel_rfl) ?_ _
      clear c0 c1 c2 b0 b1 b2 w5
      by_cases hxy : (⟨yk, yi, yt⟩ : Val) = (⟨xk, xi, xt⟩ : Val)
      · have hd : decide ((⟨yk, yi, yt⟩ : Val) = (⟨xk, xi, xt⟩ : Val)) = true := decide_eq_true hxy
        rw [hd]
        have HM : Hid ((⟨yk, yi, yt⟩ : Val) ∈ es) := by show _ ∈ es; rw [hxy, ← HX.out]; exact List.getElem_mem hk'
        clear hd hxy HX
        go_wp2_with fail
        go_ret
        exact ⟨_, rfl, ⟨fun _ => HM.out, fun _ => by omega⟩, HG0.out.trans HG.out.drew⟩
      · have hd : decide ((⟨yk, yi, yt⟩ : Val) = (⟨xk, xi, xt⟩ : Val)) = false := decide_eq_false hxy
        rw [hd]
        have HQ : Hid ((⟨yk, yi, yt⟩ : Val) ∉ es.take (k + 1)) := by
          show _ ∉ _
          rw [takeS hk', HX.out]
          intro hv
          rcases List.mem_append.1 hv with hv | hv
          · exact HA.out hv
          · simp only [List.mem_singleton] at hv; exact hxy hv
        clear hd hxy HX
        go_wp2_with fail
        go_roundg (n - (k + 1))
        case measure => omega
        case rel => exact ⟨k + 1, by omega, Nat.le_refl _, by go_num, HG.out.drew, HQ⟩
    · have hkn : Hid (k = n) := by show k = n; omega
      go_wp2_with fail
      go_ret
      exact ⟨_, rfl, ⟨fun h => by omega, fun h => by have := HA.out; rw [hkn.out, List.take_of_length_le (by rw [HN.out]; exact Nat.le_refl _)] at this; exact absurd h this⟩, HG0.out.trans HG.out⟩
set_option maxRecDepth 100000 in
theorem containsV_at (A : Option Addr) (es : List Val) (n cap : Nat) (hn : es.length = n) (hm : n ≤ 100000) (yk yi : Int) (yt : List UInt8) (w : World) (hr : RdW w A es) (b : Bool) (hb : decide ((⟨yk, yi, yt⟩ : Val) ∈ es) = b) :
    Calls Try.prog 40 #[.slice A n cap, .agg #[.int .i64 yk, .int .i64 yi, .string ⟨yt.toArray⟩]] w fun e w' => e = .returned (.bool b) ∧ Grown w w' := by
  have HB := Lib.hid hb
  have HN := Lib.hid hn
  have HG0 := Lib.hid (gr1 w (.cells #[.int .i64 yk, .int .i64 yi, .string ⟨yt.toArray⟩] 24))
  have HR := Lib.hid (hr.below HG0.out.below)
  clear hb hn hr
  go_enter Try.func40, Try.ntmps40
  go_wp2_with fail
  refine (indexV_at A es n cap HN.out hm yk yi yt _ HR.out).mono ?_
  rintro e w2 ⟨r, rfl, hri, hg⟩
  have HI := Lib.hid hri
  clear hri
  go_wp2_with fail
  all_goals (go_ret; refine ⟨ret_b ?_, HG0.out.trans hg⟩; rw [← HB.out]; have := HI.out; by_cases hm : (⟨yk, yi, yt⟩ : Val) ∈ es <;> simp_all)
set_option maxRecDepth 100000 in
set_option maxHeartbeats 1000000 in
theorem equalV_at (A : Option Addr) (es : List Val) (n cap : Nat) (hn : es.length = n) (hm : n ≤ 100000) (A' : Option Addr) (fs : List Val) (n' cap' : Nat) (hn' : fs.length = n') (hm' : n' ≤ 100000) (w : World) (hr : RdW w A es) (hr' : RdW w A' fs) (b : Bool) (hb : decide (es = fs) = b) :
    Calls Try.prog 65 #[.slice A n cap, .slice A' n' cap'] w fun e w' => e = .returned (.bool b) ∧ Grown w w' := by
  subst hb
  have HN := Lib.hid hn
  have HN' := Lib.hid hn'
  have HR := Lib.hid hr
  have HR' := Lib.hid hr'
  clear hn hn' hr hr'
  by_cases hne : n = n'
  · subst hne
    go_enter Try.func65, Try.ntmps65
    go_wp2_with fail
    go_loopg [13] n (fun gg s8 wr => ∃ k : Nat, k ≤ n ∧ n - k ≤ gg ∧ s8 = .int .i64 (k : Int) ∧ Hid (Grown w wr) ∧ Hid (es.take k = fs.take k))
    case atStart => exact ⟨0, Nat.zero_le _, by omega, rfl, Grown.refl w, by show _ = _; simp⟩
    case round =>
      obtain ⟨k, hk, hgg, rfl, HG, HA⟩ := hrel
      by_cases hlt : k < n
      · have hk' : k < es.length := by rw [HN.out]; exact hlt
        have hk2 : k < fs.length := by rw [HN'.out]; exact hlt
        obtain ⟨g, off, rfl, hg, c0, c1, c2⟩ := RdW.at3 (HR.out.below HG.out.below) hk'
        obtain ⟨g', off', rfl, hg', b0, b1, b2⟩ := RdW.at3 (HR'.out.below HG.out.below) hk2
        obtain ⟨x, hx⟩ : ∃ x, es[k] = x := ⟨_, rfl⟩
        obtain ⟨y, hy⟩ : ∃ y, fs[k] = y := ⟨_, rfl⟩
        have HX := Lib.hid hx
        have HY := Lib.hid hy
        rw [hx] at c0 c1 c2
        rw [hy] at b0 b1 b2
        clear hx hy
        obtain ⟨xk, xi, xt⟩ := x
        obtain ⟨yk, yi, yt⟩ := y
        have w5 : (k : Int) < (n : Int) := by omega
        go_wp2_with fail
        refine wp_region_held_drew (S := fun w' => w' = wr.drew) (by kernel_rfl) rfl (fun _ => ?_)
        refine wpAnyH_yes (i := 0) (d := 16) (v := ?_) rfl rfl (by kernel_rfl) (by kernel_rfl) (by kernel_rfl) (fun _ _ _ h => h) (by rfl) ?_ rfl ?_
        rotate_left
        · intro w' hSw; subst hSw; go_simp <;> with_reducible rfl
        simp only [Act.put, List.setIfInBounds_toArray, List.set_cons_zero, List.set_cons_succ]
        refine wpAnyH_yes (i := 1) (d := 17) (v := ?_) rfl rfl (by kernel_rfl) (by kernel_rfl) (by kernel_rfl) (fun _ _ _ h => h) (by rfl) ?_ rfl ?_
        rotate_left
        · intro w' hSw; subst hSw; go_simp <;> with_reducible rfl
        simp only [Act.put, List.setIfInBounds_toArray, List.set_cons_zero, List.set_cons_succ]
        refine wpAnyH_yes (i := 2) (d := 18) (v := ?_) rfl rfl (by kernel_rfl) (by kernel_rfl) (by kernel_rfl) (fun _ _ _ h => h) (by rfl) ?_ rfl ?_
        rotate_left
        · intro w' hSw; subst hSw; go_simp <;> with_reducible rfl
        simp only [Act.put, List.setIfInBounds_toArray, List.set_cons_zero, List.set_cons_succ]
        refine wpAnyH_yes (i := 3) (d := 19) (v := ?_) rfl rfl (by kernel_rfl) (by kernel_rfl) (by kernel_rfl) (fun _ _ _ h => h) (by rfl) ?_ rfl ?_
        rotate_left
        · intro w' hSw; subst hSw; go_simp <;> with_reducible rfl
        simp only [Act.put, List.setIfInBounds_toArray, List.set_cons_zero, List.set_cons_succ]
        refine wpAnyH_yes (i := 4) (d := 20) (v := ?_) rfl rfl (by kernel_rfl) (by kernel_rfl) (by kernel_rfl) (fun _ _ _ h => h) (by rfl) ?_ rfl ?_
        rotate_left
        · intro w' hSw; subst hSw; go_simp <;> with_reducible rfl
        simp only [Act.put, List.setIfInBounds_toArray, List.set_cons_zero, List.set_cons_succ]
        refine wpAnyH_yes (i := 5) (d := 21) (v := ?_) rfl rfl (by kernel_rfl) (by kernel_rfl) (by kernel_rfl) (fun _ _ _ h => h) (by rfl) ?_ rfl ?_
        rotate_left
        · intro w' hSw; subst hSw; go_simp <;> with_reducible rfl
        simp only [Act.put, List.setIfInBounds_toArray, List.set_cons_zero, List.set_cons_succ]
        refine wpAnyH_yes (i := 6) (d := 22) (v := ?_) rfl rfl (by kernel_rfl) (by kernel_rfl) (by kernel_rfl) (fun _ _ _ h => h) (by rfl) ?_ rfl ?_
        rotate_left
        · intro w' hSw; subst hSw; go_simp <;> with_reducible rfl
        simp only [Act.put, List.setIfInBounds_toArray, List.set_cons_zero, List.set_cons_succ]
        refine wpAnyH_yes (i := 7) (d := 23) (v := ?_) rfl rfl (by kernel_rfl) (by kernel_rfl) (by kernel_rfl) (fun _ _ _ h => h) (by rfl) ?_ rfl ?_
        rotate_left
        · intro w' hSw; subst hSw; go_simp <;> with_reducible rfl
        simp only [Act.put, List.setIfInBounds_toArray, List.set_cons_zero, List.set_cons_succ]
        refine wpAnyH_yes (i := 8) (d := 24) (v := .bool (!decide ((⟨xk, xi, xt⟩ : Val) = (⟨yk, yi, yt⟩ : Val)))) rfl rfl (by kernel_rfl) (by kernel_rfl) (by kernel_rfl) (fun _ _ _ h => h) (by rfl) ?_ rfl ?_
        · intro w' hSw; subst hSw; go_simp
          by_cases a1 : xk = yk <;> by_cases a2 : xi = yi <;> by_cases a3 : xt = yt <;> simp [a1, a2, a3]
        simp only [Act.put, List.setIfInBounds_toArray, List.set_cons_zero, List.set_cons_succ]
        refine wpAnyH_done (by kernel_rfl) ?_ _
        clear c0 c1 c2 b0 b1 b2 w5
        by_cases hxy : (⟨xk, xi, xt⟩ : Val) = (⟨yk, yi, yt⟩ : Val)
        · have hd : (!decide ((⟨xk, xi, xt⟩ : Val) = (⟨yk, yi, yt⟩ : Val))) = false := by rw [decide_eq_true hxy]; rfl
          rw [hd]
          have HQ : Hid (es.take (k + 1) = fs.take (k + 1)) := by
            show _ = _
            rw [takeS hk', takeS hk2, HX.out, HY.out, HA.out, hxy]
          clear hd hxy HX HY
          go_wp2_with fail
          go_roundg (n - (k + 1))
          case measure => omega
          case rel => exact ⟨k + 1, by omega, Nat.le_refl _, by go_num, HG.out.drew, HQ⟩
        · have hd : (!decide ((⟨xk, xi, xt⟩ : Val) = (⟨yk, yi, yt⟩ : Val))) = true := by rw [decide_eq_false hxy]; rfl
          rw [hd]
          have HQ : Hid (es ≠ fs) := by
            show _ ≠ _
            intro e
            subst e
            exact hxy (HX.out.symm.trans HY.out)
          clear hd hxy HX HY
          go_wp2_with fail
          go_ret
          exact ⟨ret_b (decide_eq_false HQ.out).symm, HG.out.drew⟩
      · have hkn : Hid (k = n) := by show k = n; omega
        go_wp2_with fail
        go_ret
        refine ⟨ret_b (decide_eq_true ?_).symm, HG.out⟩
        have := HA.out
        rwa [hkn.out, List.take_of_length_le (by rw [HN.out]; exact Nat.le_refl _), List.take_of_length_le (by rw [HN'.out]; exact Nat.le_refl _)] at this
  · have v1 : ((n : Int) == (n' : Int)) = false := beq_eq_false_iff_ne.2 (by omega)
    go_enter Try.func65, Try.ntmps65
    go_wp2_with fail
    go_ret
    exact ⟨ret_b (decide_eq_false fun e => hne (by rw [← HN.out, ← HN'.out, e])).symm, Grown.refl _⟩
end Go.Proofs.Ytcgmbgfbhdimeaa
