/- slices.IndexFunc and slices.DeleteFunc over values. -/
import Derived.Test.YtcgmbgfbhdimeaaSComp
import Derived.Shelf.Abstract
namespace Go.Proofs.Ytcgmbgfbhdimeaa
open Go.RowKit Go.Sort Spans
/-- What is asked of a function that tells of a value if it is to go: in whatever world K holds of. -/
def PredK (K : World → Prop) (gf : Nat) (lb : Array Value) (p : Val → Bool) : Prop :=
  ∀ (W : World) (x : Val), K W → Calls Try.prog gf (#[.agg #[.int .i64 x.k, .int .i64 x.i, .string ⟨x.t.toArray⟩]] ++ lb) W fun e w' => e = .returned (.bool (p x)) ∧ Grown W w'
/-- The first of some values of which p holds. -/
def First (p : Val → Bool) (es : List Val) (r : Int) : Prop := (r = -1 ∧ ∀ v ∈ es, p v = false) ∨ ∃ k : Nat, ∃ h : k < es.length, r = (k : Int) ∧ p es[k] = true ∧ ∀ v ∈ es.take k, p v = false
set_option maxRecDepth 100000 in
set_option maxHeartbeats 1000000 in
theorem indexFuncV_at (K : World → Prop) (gf : Nat) (lb : Array Value) (p : Val → Bool) (hp : PredK K gf lb p) (hK : ∀ W W', K W → Grown W W' → K W') (eg : ∀ args w, (callFunc gf args).run Try.prog w = .ok (.enter gf args) w)
    (A : Option Addr) (es : List Val) (n cap : Nat) (hn : es.length = n) (hm : n ≤ 100000) (w : World) (hr : RdW w A es) (hk : K w) :
    Calls Try.prog 93 #[.slice A n cap, .func (.func gf) #[] lb] w fun e w' => ∃ r, e = .returned (.int .i64 r) ∧ First p es r ∧ Grown w w' := by
  have HN := Lib.hid hn
  have HP := Lib.hid hp
  have HK := Lib.hid hK
  have HK0 := Lib.hid hk
  clear hn hp hK hk
  go_enter Try.func93, Try.ntmps93
  go_wp2_with fail
  go_loopg [8] n (fun gg s8 wr => ∃ k : Nat, k ≤ n ∧ n - k ≤ gg ∧ s8 = .int .i64 (k : Int) ∧ Hid (Grown w wr) ∧ Hid (∀ v ∈ es.take k, p v = false))
  case atStart => exact ⟨0, Nat.zero_le _, by omega, rfl, Grown.refl w, by show ∀ _, _; simp⟩
  case round =>
    obtain ⟨k, hk, hgg, rfl, HG, HA⟩ := hrel
    by_cases hlt : k < n
    · have hk' : k < es.length := by rw [HN.out]; exact hlt
      obtain ⟨g, off, rfl, hg, c0, c1, c2⟩ := RdW.at3 (hr.below HG.out.below) hk'
      have hcall := HP.out wr es[k] (HK.out w wr HK0.out HG.out)
      obtain ⟨x, hx⟩ : ∃ x, es[k] = x := ⟨_, rfl⟩
      have HX := Lib.hid hx
      rw [hx] at c0 c1 c2 hcall
      clear hx hr
      obtain ⟨xk, xi, xt⟩ := x
      have w5 : (k : Int) < (n : Int) := by omega
      cases hq : p ⟨xk, xi, xt⟩ with
      | true =>
        rw [hq] at hcall
        have HQ := Lib.hid hq
        clear hq
        go_wp2_with (go_at_fn gf; refine hcall.mono ?_; rintro e w' ⟨rfl, hgr⟩)
        go_ret
        exact ⟨_, rfl, .inr ⟨k, hk', rfl, by rw [HX.out]; exact HQ.out, HA.out⟩, HG.out.trans hgr⟩
      | false =>
        rw [hq] at hcall
        have HQ : Hid (∀ v ∈ es.take (k + 1), p v = false) := by
          show ∀ v ∈ es.take (k + 1), p v = false
          rw [take_snoc hk', HX.out]
          intro v hv
          rcases List.mem_append.1 hv with hv | hv
          · exact HA.out v hv
          · simp at hv; subst hv; exact hq
        clear hq
        go_wp2_with (go_at_fn gf; refine hcall.mono ?_; rintro e w' ⟨rfl, hgr⟩)
        go_roundg (n - (k + 1))
        case measure => omega
        case rel => exact ⟨k + 1, by omega, Nat.le_refl _, by go_num, HG.out.trans hgr, HQ⟩
    · have hkn : Hid (k = n) := by show k = n; omega
      go_wp2_with fail
      go_ret
      exact ⟨_, rfl, .inl ⟨rfl, by have := HA.out; rwa [hkn.out, List.take_of_length_le (by rw [HN.out]; exact Nat.le_refl _)] at this⟩, HG.out⟩
/-- What has been done when the values ahead of p have been gone over. -/
structure DelInv (q : Val → Bool) (es : List Val) (p i : Nat) (cs : List Val) : Prop where
  len : cs.length = es.length
  lt : i < p
  le : p ≤ es.length
  high : ∀ j, p ≤ j → cs[j]? = es[j]?
  kept : cs.take i = (es.take p).filter fun v => !q v
theorem filter_none {q : Val → Bool} {l : List Val} (h : ∀ v ∈ l, q v = false) : (l.filter fun v => !q v) = l := List.filter_eq_self.2 fun v hv => by rw [h v hv]; rfl
theorem DelInv.start {q : Val → Bool} {es : List Val} {k : Nat} (hk : k < es.length) (h1 : q es[k] = true) (h2 : ∀ v ∈ es.take k, q v = false) : DelInv q es (k + 1) k es :=
  ⟨rfl, by omega, by omega, fun _ _ => rfl, by rw [take_snoc hk, List.filter_append, filter_none h2]; simp [h1]⟩
theorem DelInv.skip {q : Val → Bool} {es cs : List Val} {p i : Nat} (h : DelInv q es p i cs) (hlt : p < es.length) (e : q es[p] = true) : DelInv q es (p + 1) i cs :=
  ⟨h.len, by have := h.lt; omega, by omega, fun j hj => h.high j (by omega), by rw [take_snoc hlt, List.filter_append, ← h.kept]; simp [e]⟩
theorem DelInv.keep {q : Val → Bool} {es cs : List Val} {p i : Nat} (h : DelInv q es p i cs) (hlt : p < es.length) (e : q es[p] = false) : DelInv q es (p + 1) (i + 1) (cs.set i es[p]) := by
  have hi : i < cs.length := by have := h.lt; have := h.len; omega
  have ht : (cs.set i es[p]).take (i + 1) = cs.take i ++ [es[p]] := by
    rw [List.take_succ_eq_append_getElem (by simpa using hi), List.take_set, List.set_eq_of_length_le (by simp; omega)]
    simp
  refine ⟨by simp [h.len], by have := h.lt; omega, by omega, fun j hj => ?_, ?_⟩
  · rw [List.getElem?_set_ne (by have := h.lt; omega)]
    exact h.high j (by omega)
  · rw [ht, take_snoc hlt, List.filter_append, ← h.kept]; simp [e]
/-- What DeleteFunc tells. -/
def Deletes (q : Val → Bool) (w : World) (g : Nat) (es : List Val) (n cap : Nat) (sp : List Value) (e : Ending) (w' : World) : Prop :=
  ∃ m sp', e = .returned (.slice (some ⟨g, 0, none⟩) m cap) ∧ (es.filter fun v => !q v).length = m ∧ m ≤ n ∧ Lies w' g (es.filter fun v => !q v) sp' ∧ m * 3 + sp'.length = n * 3 + sp.length ∧ Touch g w w'
theorem Touch.grown {g : Nat} {a b c : World} (h : Touch g a b) (k : Grown b c) : Touch g a c := h.trans (Touch.of_below k.below)
theorem Lies.grown {w w' : World} {g : Nat} {es : List Val} {sp : List Value} (h : Lies w g es sp) (k : Grown w w') : Lies w' g es sp := Blk.below h k.below h.lt
set_option maxRecDepth 100000 in
set_option maxHeartbeats 2000000 in
theorem deleteFuncV_at (K : World → Prop) (gf : Nat) (lb : Array Value) (q : Val → Bool) (hp : PredK K gf lb q) (eg : ∀ args w, (callFunc gf args).run Try.prog w = .ok (.enter gf args) w)
    (g : Nat) (es : List Val) (n cap : Nat) (sp : List Value) (hn : es.length = n) (hm : n ≤ 100000) (hc : n ≤ cap) (w : World) (hB : Lies w g es sp) (hk : K w) (hK : ∀ W W', K W → Touch g W W' → K W') :
    Calls Try.prog 76 #[.slice (some ⟨g, 0, none⟩) n cap, .func (.func gf) #[] lb] w (Deletes q w g es n cap sp) := by
  have HN := Lib.hid hn
  have HP := Lib.hid hp
  have HK := Lib.hid hK
  have HK0 := Lib.hid hk
  have HB0 := Lib.hid hB
  clear hn
  have hix := indexFuncV_at K gf lb q hp (fun W W' h hg => hK W W' h (Touch.of_below hg.below)) eg (some ⟨g, 0, none⟩) es n cap HN.out hm w hB.rd hk
  clear hp hK hk hB
  go_enter Try.func76, Try.ntmps76
  go_wp2_with fail
  refine hix.mono ?_
  rintro e w1 ⟨r, rfl, hF, hg1⟩
  clear hix
  have HL1 := Lib.hid (HB0.out.grown hg1)
  have HT1 := Lib.hid (Touch.of_below (g := g) hg1.below)
  clear hg1 HB0
  rcases hF with ⟨rfl, hall⟩ | ⟨k, hk', rfl, hqk, hall⟩
  · have HF : Hid (es.filter (fun v => !q v) = es) := filter_none hall
    clear hall
    go_wp2_with fail
    go_ret
    exact ⟨n, sp, rfl, by rw [HF.out]; exact HN.out, Nat.le_refl _, by rw [HF.out]; exact HL1.out, rfl, HT1.out⟩
  · have HI : Hid (DelInv q es (k + 1) k es) := DelInv.start hk' hqk hall
    have hkn : k < n := by rw [← HN.out]; exact hk'
    have v1 : ((k : Int) == -1) = false := beq_eq_false_iff_ne.2 (by omega)
    clear hqk hall
    go_wp2_with fail
    clear v1
    go_loopg [5, 6, 7] n (fun gg s5 s6 _ wr => ∃ (i j : Nat) (cs : List Val), s5 = .int .i64 (i : Int) ∧ s6 = .int .i64 (j : Int) ∧ j ≤ n ∧ n - j ≤ gg ∧ i < j ∧ Hid (DelInv q es j i cs) ∧ Hid (Lies wr g cs sp) ∧ Hid (Touch g w wr))
    case atStart => exact ⟨k, k + 1, es, rfl, by go_num, by omega, by omega, by omega, HI, HL1, HT1⟩
    case round =>
      obtain ⟨i, j, cs, rfl, rfl, hjn, hgg, hij, HI2, HL, HT⟩ := hrel
      clear HI HL1 HT1
      have hcl : Hid (cs.length = n) := HI2.out.len.trans HN.out
      by_cases hlt : j < n
      · have hj' : j < cs.length := by rw [hcl.out]; exact hlt
        have hj2 : j < es.length := by rw [HN.out]; exact hlt
        obtain ⟨c0, c1, c2⟩ := HL.out.at3 hj'
        obtain ⟨x, hx⟩ : ∃ x, es[j] = x := ⟨_, rfl⟩
        have HX := Lib.hid hx
        have gx : cs[j] = x := by
          have := HI2.out.high j (by omega)
          rw [List.getElem?_eq_getElem hj', List.getElem?_eq_getElem hj2, hx] at this
          exact Option.some.inj this
        rw [gx] at c0 c1 c2
        clear hx gx
        obtain ⟨xk, xi, xt⟩ := x
        have hlw : g < wr.heap.size := Blk.lt HL.out
        have hcall := HP.out (wr.alloc (.cells #[.int .i64 xk, .int .i64 xi, .string ⟨xt.toArray⟩] 24)) ⟨xk, xi, xt⟩ (HK.out w _ HK0.out (HT.out.grown ((Grown.refl _).alloc _)))
        have hbx := Blk.new wr 24 #[.int .i64 xk, .int .i64 xi, .string ⟨xt.toArray⟩]
        have HG1 := Lib.hid ((Grown.refl wr).alloc (.cells #[.int .i64 xk, .int .i64 xi, .string ⟨xt.toArray⟩] 24))
        have w5 : (j : Int) < (n : Int) := by omega
        cases hq : q ⟨xk, xi, xt⟩ with
        | true =>
          rw [hq] at hcall
          have HI3 : Hid (DelInv q es (j + 1) i cs) := HI2.out.skip hj2 (by rw [HX.out]; exact hq)
          clear hq HX
          go_wp2_with (go_at_fn gf; refine hcall.mono ?_; rintro e w' ⟨rfl, hgr⟩)
          go_roundg (n - (j + 1))
          case measure => omega
          case rel => exact ⟨i, j + 1, cs, rfl, by go_num, by omega, Nat.le_refl _, by omega, HI3, HL.out.grown (HG1.out.trans hgr), HT.out.grown (HG1.out.trans hgr)⟩
        | false =>
          rw [hq] at hcall
          have HI3 : Hid (DelInv q es (j + 1) (i + 1) (cs.set i ⟨xk, xi, xt⟩)) := by
            have := HI2.out.keep hj2 (by rw [HX.out]; exact hq)
            rw [HX.out] at this
            exact this
          clear hq HX
          have v1 : (i : Int) < (n : Int) := by omega
          go_wp2_with (go_at_fn gf; refine hcall.mono ?_; rintro e w2 ⟨rfl, hgr⟩; have hG2 := HG1.out.trans hgr; have hl2 := HL.out.grown hG2; have hb2 := Blk.below hbx hgr.below hbx.lt; obtain ⟨b0, b1, b2, _⟩ := blk3 hb2; have h3 := hl2.at3 (k := i) (by rw [hcl.out]; omega); obtain ⟨e0, e1, e2⟩ := h3; have f0 := Blk.frozen hl2 (i * 3); have f1 := Blk.frozen hl2 (i * 3 + 1); have f2 := Blk.frozen hl2 (i * 3 + 2); have HL2 := Lib.hid (hl2.set i (by rw [hcl.out]; omega) ⟨xk, xi, xt⟩); have HT2 := Lib.hid ((HT.out.grown hG2).trans (touch_set3 w2 g (i * 3) (i * 3 + 1) (i * 3 + 2) (.int .i64 xk) (.int .i64 xi) (.string ⟨xt.toArray⟩))); clear hG2 hl2 hb2 hgr hcall hbx c0 c1 c2)
          go_roundg (n - (j + 1))
          case measure => omega
          case rel => exact ⟨i + 1, j + 1, _, by go_num, by go_num, by omega, Nat.le_refl _, by omega, HI3, HL2, HT2⟩
      · have hend : Hid (j = n) := by show _ = _; omega
        have v5 : ¬ (j : Int) < (n : Int) := by omega
        have hin : i < n := by omega
        obtain ⟨w3, sp', hcr, hl3, ht3, hs3⟩ := HL.out.clear i n hcl.out hin (cap - i)
        have HL3 := Lib.hid hl3
        have HT3 := Lib.hid (HT.out.trans ht3)
        have HS3 := Lib.hid hs3
        have hcut : ∀ W, (Instr.slice 27 (.slice (some ⟨g, 0, none⟩) n cap) (some (.int .i64 (i : Int))) none none).run Try.prog W = .ok (.slice (some ⟨g, i * 3, none⟩) (n - i) (cap - i)) W := fun W => by
          have h1 : (0 : Int) ≤ (i : Int) := by omega
          have h2 : (i : Int) ≤ (n : Int) := by omega
          have h3 : ¬ cap = i := by omega
          go_simp
        have hhd := run_headW (some ⟨g, 0, none⟩) n cap i (by omega) hc
        clear hl3 ht3 hs3 HL HT
        go_wp2_with fail
        go_ret
        have hk2 := HI2.out.kept
        rw [hend.out, List.take_of_length_le (l := es) (by rw [HN.out]; exact Nat.le_refl _)] at hk2
        exact ⟨i, sp', rfl, by rw [← hk2]; simp [hcl.out]; omega, by omega, by rw [← hk2]; exact HL3.out, HS3.out, HT3.out⟩
end Go.Proofs.Ytcgmbgfbhdimeaa
