/- slices.Compact over values that stand in order. -/
import Derived.Test.YtcgmbgfbhdimeaaSLie
namespace Go.Proofs.Ytcgmbgfbhdimeaa
open Go.RowKit Go.Sort Spans
/-- Values that rise. -/
def StrictV (l : List Val) : Prop := l.Pairwise fun a b => Vals.cmp a.k a.i a.t b.k b.i b.t < 0
theorem lt_new {es : List Val} (hS : SortedV es) {p : Nat} (hlt : p < es.length) (hne : es[p] ≠ es[p - 1]) : ∀ v ∈ es.take p, Vals.cmp v.k v.i v.t es[p].k es[p].i es[p].t < 0 := by
  intro v hv
  obtain ⟨j, hj, rfl⟩ := List.mem_iff_getElem.1 hv
  have hj' : j < p := by simp at hj; omega
  rw [List.getElem_take]
  have hP := List.pairwise_iff_getElem.1 hS
  have h1 := hP (p - 1) p (by omega) hlt (by omega)
  have h2 : Vals.cmp es[p - 1].k es[p - 1].i es[p - 1].t es[p].k es[p].i es[p].t ≠ 0 := fun h => hne ((val_eq_iff _ _).1 h).symm
  have h3 := hP j p (by omega) hlt hj'
  have h4 : Vals.cmp es[j].k es[j].i es[j].t es[p].k es[p].i es[p].t ≠ 0 := fun h => by
    have e := (val_eq_iff _ _).1 h
    by_cases hjp : j = p - 1
    · exact hne (by rw [← e]; congr 1)
    · have h5 := hP j (p - 1) (by omega) (by omega) (by omega)
      rw [e] at h5
      have := Vals.cmp_neg es[p - 1].k es[p - 1].i es[p - 1].t es[p].k es[p].i es[p].t
      omega
  omega
theorem strict_snoc {l : List Val} {x : Val} (h : StrictV l) (hx : ∀ v ∈ l, Vals.cmp v.k v.i v.t x.k x.i x.t < 0) : StrictV (l ++ [x]) := by
  unfold StrictV
  rw [List.pairwise_append]
  exact ⟨h, by simp, fun a ha b hb => by simp at hb; subst hb; exact hx a ha⟩
theorem take_snoc {es : List Val} {p : Nat} (h : p < es.length) : es.take (p + 1) = es.take p ++ [es[p]] := List.take_succ_eq_append_getElem h
theorem mem_prev {es : List Val} {p : Nat} (h1 : 1 ≤ p) (h : p < es.length) : es[p - 1] ∈ es.take p := by
  rw [List.mem_iff_getElem]
  exact ⟨p - 1, by simp; omega, by rw [List.getElem_take]⟩
/-- What has been done when the values ahead of p have been gone over. -/
structure CompInv (es : List Val) (p i : Nat) (cs : List Val) : Prop where
  len : cs.length = es.length
  pos : 1 ≤ i
  lt : i < p
  le : p ≤ es.length
  high : ∀ j, p - 1 ≤ j → cs[j]? = es[j]?
  strict : StrictV (cs.take i)
  mem : ∀ v, v ∈ cs.take i ↔ v ∈ es.take p
theorem CompInv.start {es : List Val} {k : Nat} (h1 : 1 ≤ k) (hlt : k < es.length) (hs : StrictV (es.take k)) (e : es[k] = es[k - 1]) : CompInv es (k + 1) k es :=
  ⟨rfl, h1, by omega, by omega, fun _ _ => rfl, hs, fun v => by
    rw [take_snoc hlt, e]
    have := mem_prev h1 hlt
    simp only [List.mem_append, List.mem_singleton]
    exact ⟨.inl, fun h => h.elim id (fun h => h ▸ this)⟩⟩
theorem CompInv.skip {es cs : List Val} {p i : Nat} (h : CompInv es p i cs) (hlt : p < es.length) (e : es[p] = es[p - 1]) : CompInv es (p + 1) i cs :=
  ⟨h.len, h.pos, by have := h.lt; omega, by omega, fun j hj => h.high j (by omega), h.strict, fun v => by
    rw [h.mem, take_snoc hlt, e]
    have := mem_prev (by have := h.lt; omega) hlt
    simp only [List.mem_append, List.mem_singleton]
    exact ⟨.inl, fun h => h.elim id (fun h => h ▸ this)⟩⟩
theorem CompInv.keep {es cs : List Val} {p i : Nat} (hS : SortedV es) (h : CompInv es p i cs) (hlt : p < es.length) (e : es[p] ≠ es[p - 1]) : CompInv es (p + 1) (i + 1) (cs.set i es[p]) := by
  have hi : i < cs.length := by have := h.lt; have := h.len; omega
  have ht : (cs.set i es[p]).take (i + 1) = cs.take i ++ [es[p]] := by
    rw [List.take_succ_eq_append_getElem (by simpa using hi), List.take_set, List.set_eq_of_length_le (by simp; omega)]
    simp
  refine ⟨by simp [h.len], by omega, by have := h.lt; omega, by omega, fun j hj => ?_, ?_, fun v => ?_⟩
  · rw [List.getElem?_set_ne (by have := h.lt; omega)]
    exact h.high j (by omega)
  · rw [ht]
    exact strict_snoc h.strict fun v hv => lt_new hS hlt e v ((h.mem v).1 hv)
  · rw [ht, take_snoc hlt]
    simp only [List.mem_append, List.mem_singleton, h.mem]
/-- What Compact tells. -/
def Compacts (w : World) (g : Nat) (es : List Val) (n cap : Nat) (sp : List Value) (e : Ending) (w' : World) : Prop :=
  ∃ out m sp', e = .returned (.slice (some ⟨g, 0, none⟩) m cap) ∧ out.length = m ∧ m ≤ n ∧ StrictV out ∧ (∀ v, v ∈ out ↔ v ∈ es) ∧ Lies w' g out sp' ∧ m * 3 + sp'.length = n * 3 + sp.length ∧ Touch g w w'
set_option maxRecDepth 100000 in
set_option maxHeartbeats 2000000 in
theorem compactV_at (g : Nat) (es : List Val) (n cap : Nat) (sp : List Value) (hn : es.length = n) (hm : n ≤ 100000) (hc : n ≤ cap) (hcm : cap ≤ maxLen) (hS : SortedV es) (w : World) (hB : Lies w g es sp) :
    Calls Try.prog 60 #[.slice (some ⟨g, 0, none⟩) n cap] w (Compacts w g es n cap sp) := by
  have HN := Lib.hid hn
  have HS := Lib.hid hS
  have HB0 := Lib.hid hB
  rw [maxLen_num] at hcm
  clear hn hS
  have hG := eqGuardV
  by_cases h2 : n < 2
  · have hst : Hid (StrictV es) := by
      show StrictV es
      have := HN.out
      match es, this with
      | [], _ => exact List.Pairwise.nil
      | [x], _ => exact List.pairwise_singleton _ _
      | _ :: _ :: _, h => simp at h; omega
    go_enter Try.func60, Try.ntmps60
    go_wp2_with fail
    go_ret
    exact ⟨es, n, sp, rfl, HN.out, Nat.le_refl _, hst.out, fun _ => Iff.rfl, HB0.out, rfl, Touch.refl _ _⟩
  · clear hB
    go_enter Try.func60, Try.ntmps60
    go_wp2_with fail
    go_loopg [3] n (fun gg s3 wr => ∃ k : Nat, 1 ≤ k ∧ k ≤ n ∧ n - k ≤ gg ∧ s3 = .int .i64 (k : Int) ∧ Hid (Lies wr g es sp) ∧ Hid (Touch g w wr) ∧ Hid (StrictV (es.take k)))
    case atStart =>
      refine ⟨1, Nat.le_refl _, by omega, by omega, rfl, HB0, Touch.refl _ _, ?_⟩
      show StrictV _
      match es with
      | [] => exact List.Pairwise.nil
      | x :: r => exact List.pairwise_singleton _ _
    case round =>
      obtain ⟨k, hk1, hk, hgg, rfl, HL, HT, HP⟩ := hrel
      clear HB0
      by_cases hlt : k < n
      · have hk' : k < es.length := by rw [HN.out]; exact hlt
        obtain ⟨c0, c1, c2⟩ := HL.out.at3 hk'
        obtain ⟨d0, d1, d2⟩ := HL.out.at3 (k := k - 1) (by omega)
        obtain ⟨x, hx⟩ : ∃ x, es[k] = x := ⟨_, rfl⟩
        obtain ⟨y, hy⟩ : ∃ y, es[k - 1] = y := ⟨_, rfl⟩
        have HX := Lib.hid hx
        have HY := Lib.hid hy
        rw [hx] at c0 c1 c2
        rw [hy] at d0 d1 d2
        clear hx hy
        obtain ⟨xk, xi, xt⟩ := x
        obtain ⟨yk, yi, yt⟩ := y
        have w1 : IntKind.i64.wrap ((k : Int) - 1) = (k : Int) - 1 := by rw [IntKind.wrap_i64]; omega
        have w2 : (0 : Int) ≤ (k : Int) - 1 := by omega
        have w3 : (k : Int) - 1 < (n : Int) := by omega
        have w4 : ((k : Int) - 1).toNat = k - 1 := by omega
        have w5 : (k : Int) < (n : Int) := by omega
        have w6 : (1 : Int) ≤ (k : Int) := by omega
        go_wp2_with fail
        refine wp_region_held_drew (S := fun w' => w' = wr.drew) (by kernel_rfl) rfl (fun _ => ?_)
        refine wpAnyH_yes (i := 0) (d := 16) (v := ?_) rfl rfl (by kernel_rfl) (by kernel_rfl) (by kernel_rfl) (fun _ _ _ h => h) (by rfl) ?_ rfl ?_
        rotate_left
        · intro w' hSw; subst hSw; go_simp <;> with_reducible rfl
        simp only [Act.put, List.setIfInBounds_toArray, List.set_cons_zero, List.set_cons_succ]
        refine wpAnyH_yes (i := 1) (d := 17) (v := ?_) rfl rfl (by kernel_rfl) (by kernel_rfl) (by kernel_rfl) (fun _ _ _ h => h) (by rfl) ?_ rfl ?_
        rotate_left
        · intro w' hSw; subst hSw; go_simp <;> with_reducible rfl
        simp only [Act.put, List.setIfInBounds_toArray, List.set_cons_zero, List.set_cons_succ]
        refine wpAnyH_yes (i := 2) (d := 18) (v := ?_) rfl rfl (by kernel_rfl) (by kernel_rfl) (by kernel_rfl) (fun _ _ _ h => h) (by rfl) ?_ rfl ?_
        rotate_left
        · intro w' hSw; subst hSw; go_simp <;> with_reducible rfl
        simp only [Act.put, List.setIfInBounds_toArray, List.set_cons_zero, List.set_cons_succ]
        refine wpAnyH_yes (i := 3) (d := 19) (v := ?_) rfl rfl (by kernel_rfl) (by kernel_rfl) (by kernel_rfl) (fun _ _ _ h => h) (by rfl) ?_ rfl ?_
        rotate_left
        · intro w' hSw; subst hSw; go_simp <;> with_reducible rfl
        simp only [Act.put, List.setIfInBounds_toArray, List.set_cons_zero, List.set_cons_succ]
        refine wpAnyH_yes (i := 4) (d := 20) (v := ?_) rfl rfl (by kernel_rfl) (by kernel_rfl) (by kernel_rfl) (fun _ _ _ h => h) (by rfl) ?_ rfl ?_
        rotate_left
        · intro w' hSw; subst hSw; go_simp <;> with_reducible rfl
        simp only [Act.put, List.setIfInBounds_toArray, List.set_cons_zero, List.set_cons_succ]
        refine wpAnyH_yes (i := 5) (d := 21) (v := ?_) rfl rfl (by kernel_rfl) (by kernel_rfl) (by kernel_rfl) (fun _ _ _ h => h) (by rfl) ?_ rfl ?_
        rotate_left
        · intro w' hSw; subst hSw; go_simp <;> with_reducible rfl
        simp only [Act.put, List.setIfInBounds_toArray, List.set_cons_zero, List.set_cons_succ]
        refine wpAnyH_yes (i := 6) (d := 22) (v := ?_) rfl rfl (by kernel_rfl) (by kernel_rfl) (by kernel_rfl) (fun _ _ _ h => h) (by rfl) ?_ rfl ?_
        rotate_left
        · intro w' hSw; subst hSw; go_simp <;> with_reducible rfl
        simp only [Act.put, List.setIfInBounds_toArray, List.set_cons_zero, List.set_cons_succ]
        refine wpAnyH_yes (i := 7) (d := 23) (v := ?_) rfl rfl (by kernel_rfl) (by kernel_rfl) (by kernel_rfl) (fun _ _ _ h => h) (by rfl) ?_ rfl ?_
        rotate_left
        · intro w' hSw; subst hSw; go_simp <;> with_reducible rfl
        simp only [Act.put, List.setIfInBounds_toArray, List.set_cons_zero, List.set_cons_succ]
        refine wpAnyH_yes (i := 8) (d := 24) (v := ?_) rfl rfl (by kernel_rfl) (by kernel_rfl) (by kernel_rfl) (fun _ _ _ h => h) (by rfl) ?_ rfl ?_
        rotate_left
        · intro w' hSw; subst hSw; go_simp <;> with_reducible rfl
        simp only [Act.put, List.setIfInBounds_toArray, List.set_cons_zero, List.set_cons_succ]
        refine wpAnyH_yes (i := 9) (d := 25) (v := .bool (decide ((⟨xk, xi, xt⟩ : Val) = ⟨yk, yi, yt⟩))) rfl rfl (by kernel_rfl) (by kernel_rfl) (by kernel_rfl) (fun _ _ _ h => h) (by rfl) ?_ rfl ?_
        · intro w' hSw; subst hSw; go_simp
          by_cases a1 : xk = yk <;> by_cases a2 : xi = yi <;> by_cases a3 : xt = yt <;> simp [a1, a2, a3]
        simp only [Act.put, List.setIfInBounds_toArray, List.set_cons_zero, List.set_cons_succ]
        refine wpAnyH_done (by kernel_rfl) ?_ _
        clear w1 w2 w3 w4 w5 w6 c0 c1 c2 d0 d1 d2
        by_cases hxy : (⟨xk, xi, xt⟩ : Val) = ⟨yk, yi, yt⟩
        · have HI : Hid (CompInv es (k + 1) k es) := CompInv.start hk1 hk' HP.out (by rw [HX.out, HY.out]; exact hxy)
          have hd : decide ((⟨xk, xi, xt⟩ : Val) = ⟨yk, yi, yt⟩) = true := decide_eq_true hxy
          rw [hd]
          clear hd hxy HX HY HP
          have hcut : ∀ W, (Instr.slice 27 (.slice (some ⟨g, 0, none⟩) n cap) (some (.int .i64 (k : Int))) none none).run Try.prog W = .ok (.slice (some ⟨g, k * 3, none⟩) (n - k) (cap - k)) W := fun W => by
            have h1 : (0 : Int) ≤ (k : Int) := by omega
            have h2 : (k : Int) ≤ (n : Int) := by omega
            have h3 : ¬ cap = k := by omega
            go_simp
          go_wp2_with fail
          clear hcut
          have HL1 : Hid (Lies wr.drew g es sp) := HL.out.drew
          have HT1 : Hid (Touch g w wr.drew) := HT.out.drew
          clear HL HT
          go_loopg [3, 5] n (fun gg s3 s5 wr => ∃ (i m : Nat) (cs : List Val), s3 = .int .i64 (i : Int) ∧ s5 = .int .i64 (m : Int) ∧ 1 ≤ m ∧ k + m ≤ n ∧ n - (k + m) ≤ gg ∧ i < k + m ∧ Hid (CompInv es (k + m) i cs) ∧ Hid (Lies wr g cs sp) ∧ Hid (Touch g w wr))
          case atStart => exact ⟨k, 1, es, rfl, rfl, Nat.le_refl _, by omega, by omega, by omega, HI, HL1, HT1⟩
          case round =>
            obtain ⟨i, m, cs, rfl, rfl, hm1, hkm, hg2, hik, HI2, HL, HT⟩ := hrel
            clear HI HL1 HT1
            have hcl : Hid (cs.length = n) := HI2.out.len.trans HN.out
            by_cases hlt2 : k + m < n
            · have hkm' : k + m < cs.length := by rw [hcl.out]; exact hlt2
              have hkm2 : k + m < es.length := by rw [HN.out]; exact hlt2
              obtain ⟨c0, c1, c2⟩ := HL.out.at3 hkm'
              obtain ⟨d0, d1, d2⟩ := HL.out.at3 (k := k + m - 1) (by omega)
              obtain ⟨x, hx⟩ : ∃ x, es[k + m] = x := ⟨_, rfl⟩
              obtain ⟨y, hy⟩ : ∃ y, es[k + m - 1] = y := ⟨_, rfl⟩
              have HX := Lib.hid hx
              have HY := Lib.hid hy
              have gx : cs[k + m] = x := by
                have := HI2.out.high (k + m) (by omega)
                rw [List.getElem?_eq_getElem hkm', List.getElem?_eq_getElem hkm2, hx] at this
                exact Option.some.inj this
              have gy : cs[k + m - 1] = y := by
                have := HI2.out.high (k + m - 1) (by omega)
                rw [List.getElem?_eq_getElem (by omega), List.getElem?_eq_getElem (by omega), hy] at this
                exact Option.some.inj this
              rw [gx, show (k + m) * 3 = k * 3 + m * 3 by omega] at c0 c1 c2
              rw [gy, show (k + m - 1) * 3 = k * 3 + (m - 1) * 3 by omega] at d0 d1 d2
              clear hx hy gx gy
              obtain ⟨xk, xi, xt⟩ := x
              obtain ⟨yk, yi, yt⟩ := y
              have w1 : IntKind.i64.wrap ((m : Int) - 1) = (m : Int) - 1 := by rw [IntKind.wrap_i64]; omega
              have w2 : (0 : Int) ≤ (m : Int) - 1 := by omega
              have w3 : (m : Int) - 1 < ((n - k : Nat) : Int) := by omega
              have w4 : ((m : Int) - 1).toNat = m - 1 := by omega
              have w5 : (m : Int) < ((n - k : Nat) : Int) := by omega
              have w6 : (1 : Int) ≤ (m : Int) := by omega
              go_wp2_with fail
              refine wp_region_held_drew (S := fun w' => w' = wr.drew) (by kernel_rfl) rfl (fun _ => ?_)
              refine wpAnyH_yes (i := 0) (d := 35) (v := ?_) rfl rfl (by kernel_rfl) (by kernel_rfl) (by kernel_rfl) (fun _ _ _ h => h) (by rfl) ?_ rfl ?_
              rotate_left
              · intro w' hSw; subst hSw; go_simp <;> with_reducible rfl
              simp only [Act.put, List.setIfInBounds_toArray, List.set_cons_zero, List.set_cons_succ]
              refine wpAnyH_yes (i := 1) (d := 36) (v := ?_) rfl rfl (by kernel_rfl) (by kernel_rfl) (by kernel_rfl) (fun _ _ _ h => h) (by rfl) ?_ rfl ?_
              rotate_left
              · intro w' hSw; subst hSw; go_simp <;> with_reducible rfl
              simp only [Act.put, List.setIfInBounds_toArray, List.set_cons_zero, List.set_cons_succ]
              refine wpAnyH_yes (i := 2) (d := 37) (v := ?_) rfl rfl (by kernel_rfl) (by kernel_rfl) (by kernel_rfl) (fun _ _ _ h => h) (by rfl) ?_ rfl ?_
              rotate_left
              · intro w' hSw; subst hSw; go_simp <;> with_reducible rfl
              simp only [Act.put, List.setIfInBounds_toArray, List.set_cons_zero, List.set_cons_succ]
              refine wpAnyH_yes (i := 3) (d := 38) (v := ?_) rfl rfl (by kernel_rfl) (by kernel_rfl) (by kernel_rfl) (fun _ _ _ h => h) (by rfl) ?_ rfl ?_
              rotate_left
              · intro w' hSw; subst hSw; go_simp <;> with_reducible rfl
              simp only [Act.put, List.setIfInBounds_toArray, List.set_cons_zero, List.set_cons_succ]
              refine wpAnyH_yes (i := 4) (d := 39) (v := ?_) rfl rfl (by kernel_rfl) (by kernel_rfl) (by kernel_rfl) (fun _ _ _ h => h) (by rfl) ?_ rfl ?_
              rotate_left
              · intro w' hSw; subst hSw; go_simp <;> with_reducible rfl
              simp only [Act.put, List.setIfInBounds_toArray, List.set_cons_zero, List.set_cons_succ]
              refine wpAnyH_yes (i := 5) (d := 40) (v := ?_) rfl rfl (by kernel_rfl) (by kernel_rfl) (by kernel_rfl) (fun _ _ _ h => h) (by rfl) ?_ rfl ?_
              rotate_left
              · intro w' hSw; subst hSw; go_simp <;> with_reducible rfl
              simp only [Act.put, List.setIfInBounds_toArray, List.set_cons_zero, List.set_cons_succ]
              refine wpAnyH_yes (i := 6) (d := 41) (v := ?_) rfl rfl (by kernel_rfl) (by kernel_rfl) (by kernel_rfl) (fun _ _ _ h => h) (by rfl) ?_ rfl ?_
              rotate_left
              · intro w' hSw; subst hSw; go_simp <;> with_reducible rfl
              simp only [Act.put, List.setIfInBounds_toArray, List.set_cons_zero, List.set_cons_succ]
              refine wpAnyH_yes (i := 7) (d := 42) (v := ?_) rfl rfl (by kernel_rfl) (by kernel_rfl) (by kernel_rfl) (fun _ _ _ h => h) (by rfl) ?_ rfl ?_
              rotate_left
              · intro w' hSw; subst hSw; go_simp <;> with_reducible rfl
              simp only [Act.put, List.setIfInBounds_toArray, List.set_cons_zero, List.set_cons_succ]
              refine wpAnyH_yes (i := 8) (d := 43) (v := ?_) rfl rfl (by kernel_rfl) (by kernel_rfl) (by kernel_rfl) (fun _ _ _ h => h) (by rfl) ?_ rfl ?_
              rotate_left
              · intro w' hSw; subst hSw; go_simp <;> with_reducible rfl
              simp only [Act.put, List.setIfInBounds_toArray, List.set_cons_zero, List.set_cons_succ]
              refine wpAnyH_yes (i := 9) (d := 44) (v := .bool (!decide ((⟨xk, xi, xt⟩ : Val) = ⟨yk, yi, yt⟩))) rfl rfl (by kernel_rfl) (by kernel_rfl) (by kernel_rfl) (fun _ _ _ h => h) (by rfl) ?_ rfl ?_
              · intro w' hSw; subst hSw; go_simp
                by_cases a1 : xk = yk <;> by_cases a2 : xi = yi <;> by_cases a3 : xt = yt <;> simp [a1, a2, a3]
              simp only [Act.put, List.setIfInBounds_toArray, List.set_cons_zero, List.set_cons_succ]
              refine wpAnyH_done (by kernel_rfl) ?_ _
              clear w1 w2 w3 w4 w5 w6
              by_cases hxy : (⟨xk, xi, xt⟩ : Val) = ⟨yk, yi, yt⟩
              · have HI3 : Hid (CompInv es (k + m + 1) i cs) := HI2.out.skip hkm2 (by rw [HX.out, HY.out]; exact hxy)
                have hd : (!decide ((⟨xk, xi, xt⟩ : Val) = ⟨yk, yi, yt⟩)) = false := by rw [decide_eq_true hxy]; rfl
                rw [hd]
                clear hd hxy HX HY c0 c1 c2 d0 d1 d2
                go_wp2_with fail
                go_roundg (n - (k + (m + 1)))
                case measure => omega
                case rel => exact ⟨i, m + 1, cs, rfl, by go_num, by omega, by omega, Nat.le_refl _, by omega, HI3, HL.out.drew, HT.out.drew⟩
              · have HI3 : Hid (CompInv es (k + m + 1) (i + 1) (cs.set i ⟨xk, xi, xt⟩)) := by
                  have := HI2.out.keep HS.out hkm2 (by rw [HX.out, HY.out]; exact hxy)
                  rw [HX.out] at this
                  exact this
                have hd : (!decide ((⟨xk, xi, xt⟩ : Val) = ⟨yk, yi, yt⟩)) = true := by rw [decide_eq_false hxy]; rfl
                rw [hd]
                obtain ⟨e0, e1, e2⟩ := HL.out.at3 (k := i) (by omega)
                have f0 := Blk.frozen HL.out (i * 3)
                have f1 := Blk.frozen HL.out (i * 3 + 1)
                have f2 := Blk.frozen HL.out (i * 3 + 2)
                have HL2 : Hid _ := HL.out.drew.set i (by rw [hcl.out]; omega) ⟨xk, xi, xt⟩
                have HT2 : Hid _ := HT.out.drew.trans (touch_set3 wr.drew g (i * 3) (i * 3 + 1) (i * 3 + 2) (.int .i64 xk) (.int .i64 xi) (.string ⟨xt.toArray⟩))
                have v1 : (i : Int) < (n : Int) := by omega
                clear hd hxy HX HY d0 d1 d2 HL HT HI2
                go_wp2_with fail
                go_roundg (n - (k + (m + 1)))
                case measure => omega
                case rel => exact ⟨i + 1, m + 1, _, by go_num, by go_num, by omega, by omega, Nat.le_refl _, by omega, HI3, HL2, HT2⟩
            · have hend : Hid (k + m = n) := by show _ = _; omega
              have v5 : ¬ (m : Int) < ((n - k : Nat) : Int) := by omega
              have hin : i < n := by omega
              obtain ⟨w3, sp', hcr, hl3, ht3, hs3⟩ := HL.out.clear i n hcl.out hin (cap - i)
              have HL3 := Lib.hid hl3
              have HT3 := Lib.hid (HT.out.trans ht3)
              have HS3 := Lib.hid hs3
              have hcut : ∀ W, (Instr.slice 27 (.slice (some ⟨g, 0, none⟩) n cap) (some (.int .i64 (i : Int))) none none).run Try.prog W = .ok (.slice (some ⟨g, i * 3, none⟩) (n - i) (cap - i)) W := fun W => by
                have h1 : (0 : Int) ≤ (i : Int) := by omega
                have h2 : (i : Int) ≤ (n : Int) := by omega
                have h3 : ¬ cap = i := by omega
                go_simp
              have hhd := run_headW (some ⟨g, 0, none⟩) n cap i (by omega) hc
              clear hl3 ht3 hs3 HL HT
              go_wp2_with fail
              go_ret
              refine ⟨cs.take i, i, sp', rfl, by simp [hcl.out]; omega, by omega, HI2.out.strict, fun v => ?_, HL3.out, HS3.out, HT3.out⟩
              rw [HI2.out.mem, hend.out, List.take_of_length_le (by rw [HN.out]; exact Nat.le_refl _)]
        · have HP2 : Hid (StrictV (es.take (k + 1))) := by
            show StrictV _
            rw [take_snoc hk']
            exact strict_snoc HP.out fun v hv => lt_new HS.out hk' (by rw [HX.out, HY.out]; exact hxy) v hv
          have hd : decide ((⟨xk, xi, xt⟩ : Val) = ⟨yk, yi, yt⟩) = false := decide_eq_false hxy
          rw [hd]
          clear hd hxy HX HY HP
          go_wp2_with fail
          go_roundg (n - (k + 1))
          case measure => omega
          case rel => exact ⟨k + 1, by omega, by omega, Nat.le_refl _, by go_num, HL.out.drew, HT.out.drew, HP2⟩
      · have hkn : Hid (k = n) := by show k = n; omega
        go_wp2_with fail
        go_ret
        exact ⟨es, n, sp, rfl, HN.out, Nat.le_refl _, (by have := HP.out; rwa [hkn.out, List.take_of_length_le (by rw [HN.out]; exact Nat.le_refl _)] at this), fun _ => Iff.rfl, HL.out, rfl, HT.out⟩
end Go.Proofs.Ytcgmbgfbhdimeaa
