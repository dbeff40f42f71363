/- Contracts of the program and of the document (RHas, RZero, RIn, RSpn), each used further on. -/
import Derived.Test.YtckabmlilbkmbaaC1
import Derived.Test.YtckabmlilbkmbaaC2
import Derived.Test.YtckabmlilbkmbaaE1
namespace Go.Proofs.Ytckabmlilbkmbaa
open Go.RowKit Go.Sort Spans Op
/-- Has, field by field. -/
def haF (K lo hi : Int) (f t : List UInt8) (o : Bool) (es : List Val) (k i : Int) (x : List UInt8) : Bool :=
  Vals.right k i x && (K == 4 || (K == k && ((if K = 2 then inT f t o x else inN lo hi i) && !decide ((⟨k, i, x⟩ : Val) ∈ es))))
set_option maxRecDepth 100000 in
set_option maxHeartbeats 4000000 in
theorem rhasF_at (K lo hi : Int) (f t : List UInt8) (o : Bool) (A : Option Addr) (n c : Nat) (es : List Val) (k i : Int) (x : List UInt8) (w : World) (hn : es.length = n) (hm : n ≤ 100000) (hx : x.length ≤ 9223372036854775807) (hf : f.length ≤ 9223372036854775807) (ht : t.length ≤ 9223372036854775807) (hr : RdW w A es) :
    Calls Try.prog 49 #[spF K lo hi f t o A n c, .agg #[.int .i64 k, .int .i64 i, .string ⟨x.toArray⟩]] w fun e w' => e = .returned (.bool (haF K lo hi f t o es k i x)) ∧ Grown w w' := by
  have HN := Lib.hid hn
  have HG0 := Lib.hid (gr2 w (.cells #[.int .i64 K, .int .i64 lo, .int .i64 hi, .string ⟨f.toArray⟩, .string ⟨t.toArray⟩, .bool o, .slice A n c] 58) (.cells #[.int .i64 k, .int .i64 i, .string ⟨x.toArray⟩] 45))
  have HR0 := Lib.hid (hr.below HG0.out.below)
  have hX0 := (Blk.new w 58 #[.int .i64 K, .int .i64 lo, .int .i64 hi, .string ⟨f.toArray⟩, .string ⟨t.toArray⟩, .bool o, .slice A n c]).alloc (.cells #[.int .i64 k, .int .i64 i, .string ⟨x.toArray⟩] 45)
  have hV0 := Blk.new (w.alloc (.cells #[.int .i64 K, .int .i64 lo, .int .i64 hi, .string ⟨f.toArray⟩, .string ⟨t.toArray⟩, .bool o, .slice A n c] 58)) 45 #[.int .i64 k, .int .i64 i, .string ⟨x.toArray⟩]
  rw [show (w.alloc (.cells #[.int .i64 K, .int .i64 lo, .int .i64 hi, .string ⟨f.toArray⟩, .string ⟨t.toArray⟩, .bool o, .slice A n c] 58)).heap.size = w.heap.size + 1 by simp] at hV0
  clear hn hr
  go_enter Try.func49, Try.ntmps49
  go_wp2_with fail
  generalize ((w.alloc (.cells #[.int .i64 K, .int .i64 lo, .int .i64 hi, .string ⟨f.toArray⟩, .string ⟨t.toArray⟩, .bool o, .slice A n c] 58)).alloc (.cells #[.int .i64 k, .int .i64 i, .string ⟨x.toArray⟩] 45)) = w0 at *
  refine (refRight_gr k i x w0 hx).mono ?_
  rintro e w1 ⟨rfl, hg1⟩
  have HG1 := Lib.hid (HG0.out.trans hg1)
  have HR1 := Lib.hid (HR0.out.below hg1.below)
  have hX1 := Blk.below hX0 hg1.below hX0.lt
  have hV1 := Blk.below hV0 hg1.below hV0.lt
  obtain ⟨a0, a1, a2, a3, a4, a5, a6, _⟩ := blk7 hX1
  obtain ⟨v0, v1, v2, _⟩ := blk3 hV1
  have hl1 := hX1.lt
  have hl2 := hV1.lt
  clear HG0 HR0 hX0 hV0 hg1
  cases hri : Vals.right k i x with
  | false =>
    go_wp2_with fail
    go_ret
    exact ⟨ret_b (by simp [haF, hri]), HG1.out⟩
  | true =>
    have HRI := Lib.hid hri
    have hk0 : k ≠ 0 := by rcases Vals.right_cases hri with ⟨h, _⟩ | ⟨h, _⟩ | ⟨h, _⟩ <;> omega
    have HK0 : Hid (((0 : Int) == k) = false) := beq_eq_false_iff_ne.2 (Ne.symm hk0)
    clear hri hk0
    by_cases h0 : K = 0
    · subst h0
      go_wp2_with fail
      go_ret
      exact ⟨ret_b (by simp [haF, HK0.out]), HG1.out⟩
    have q0 : (K == 0) = false := beq_eq_false_iff_ne.2 h0
    by_cases h4 : K = 4
    · subst h4
      go_wp2_with fail
      go_ret
      exact ⟨ret_b (by simp [haF, HRI.out]), HG1.out⟩
    have q4 : (K == 4) = false := beq_eq_false_iff_ne.2 h4
    by_cases hkk : K = k
    · subst hkk
      obtain ⟨b, hb⟩ : ∃ b, decide ((⟨K, i, x⟩ : Val) ∈ es) = b := ⟨_, rfl⟩
      have HM := Lib.hid hb
      clear hb
      go_wp2_with fail
      refine (refHas_at A es n c HN.out hm K i x w1 HR1.out b HM.out).mono ?_
      rintro e w2 ⟨rfl, hg2⟩
      have hX2 := Blk.below hX1 hg2.below hX1.lt
      have hV2 := Blk.below hV1 hg2.below hV1.lt
      have HG2 := Lib.hid (HG1.out.trans hg2)
      have HR2 := Lib.hid (HR1.out.below hg2.below)
      clear a0 a1 a2 a3 a4 a5 a6 v0 v1 v2 hl1 hl2 HG1 HR1 hg2
      obtain ⟨a0, a1, a2, a3, a4, a5, a6, _⟩ := blk7 hX2
      obtain ⟨v0, v1, v2, _⟩ := blk3 hV2
      have hl1 := hX2.lt
      have hl2 := hV2.lt
      cases b with
      | true =>
        go_wp2_with fail
        go_ret
        exact ⟨ret_b (by simp [haF, q4, of_decide_eq_true HM.out]), HG2.out⟩
      | false =>
        by_cases h2 : K = 2
        · subst h2
          obtain ⟨z1, hz1⟩ : ∃ z, Vals.cmpT x f = z := ⟨_, rfl⟩
          have HZ1 := Lib.hid hz1
          clear hz1
          go_wp2_with fail
          refine (textG_at x f hx hf w2).mono ?_
          rintro e w3 ⟨rfl, hg3⟩
          rw [HZ1.out]
          have hX3 := Blk.below hX2 hg3.below hX2.lt
          have hV3 := Blk.below hV2 hg3.below hV2.lt
          have HG3 := Lib.hid (HG2.out.trans hg3)
          have HR3 := Lib.hid (HR2.out.below hg3.below)
          clear a0 a1 a2 a3 a4 a5 a6 v0 v1 v2 hl1 hl2 HG2 HR2 hg3
          obtain ⟨a0, a1, a2, a3, a4, a5, a6, _⟩ := blk7 hX3
          obtain ⟨v0, v1, v2, _⟩ := blk3 hV3
          have hl1 := hX3.lt
          have hl2 := hV3.lt
          cases hlf : bytesLess x f with
          | true =>
            have u5 : decide (0 ≤ z1) = false := decide_eq_false (by rw [← HZ1.out]; have := (cmpT_neg_iff x f).2 hlf; omega)
            have HLF := Lib.hid hlf
            clear hlf
            go_wp2_with fail
            go_ret
            exact ⟨ret_b (by simp [haF, HRI.out, HM.out, inT, HLF.out]), HG3.out⟩
          | false =>
            have u5 : decide (0 ≤ z1) = true := decide_eq_true (by rw [← HZ1.out]; have : ¬ Vals.cmpT x f < 0 := (fun h => by have := (cmpT_neg_iff x f).1 h; rw [hlf] at this; cases this); omega)
            have HLF := Lib.hid hlf
            clear hlf
            cases o with
            | true =>
              go_wp2_with fail
              go_ret
              exact ⟨ret_b (by simp [haF, HRI.out, HM.out, inT, HLF.out]), HG3.out⟩
            | false =>
              obtain ⟨z2, hz2⟩ : ∃ z, Vals.cmpT x t = z := ⟨_, rfl⟩
              have HZ2 := Lib.hid hz2
              clear hz2
              go_wp2_with fail
              refine (textG_at x t hx ht w3).mono ?_
              rintro e w4 ⟨rfl, hg4⟩
              rw [HZ2.out]
              have HG4 := Lib.hid (HG3.out.trans hg4)
              cases hlt : bytesLess x t with
              | true =>
                have u6 : decide (z2 < 0) = true := decide_eq_true (by rw [← HZ2.out]; exact (cmpT_neg_iff _ _).2 hlt)
                have HLT := Lib.hid hlt
                clear hlt
                go_wp2_with fail
                go_ret
                exact ⟨ret_b (by simp [haF, HRI.out, HM.out, inT, HLF.out, HLT.out]), HG4.out⟩
              | false =>
                have u6 : decide (z2 < 0) = false := decide_eq_false (by rw [← HZ2.out]; exact fun h => by have := (cmpT_neg_iff _ _).1 h; rw [hlt] at this; cases this)
                have HLT := Lib.hid hlt
                clear hlt
                go_wp2_with fail
                go_ret
                exact ⟨ret_b (by simp [haF, HRI.out, HM.out, inT, HLF.out, HLT.out]), HG4.out⟩
        · have q2 : (K == 2) = false := beq_eq_false_iff_ne.2 h2
          by_cases ha : lo ≤ i
          · by_cases hb : i ≤ hi
            · have d1 : decide (lo ≤ i) = true := decide_eq_true ha
              have d2 : decide (i ≤ hi) = true := decide_eq_true hb
              go_wp2_with fail
              go_ret
              exact ⟨ret_b (by simp [haF, HRI.out, q4, HM.out, h2, inN, ha, hb]), HG2.out⟩
            · have d1 : decide (lo ≤ i) = true := decide_eq_true ha
              have d2 : decide (i ≤ hi) = false := decide_eq_false hb
              go_wp2_with fail
              go_ret
              exact ⟨ret_b (by simp [haF, HRI.out, q4, HM.out, h2, inN, ha, hb]), HG2.out⟩
          · have d1 : decide (lo ≤ i) = false := decide_eq_false ha
            go_wp2_with fail
            go_ret
            exact ⟨ret_b (by simp [haF, HRI.out, q4, HM.out, h2, inN]; omega), HG2.out⟩
    · have qk : (K == k) = false := beq_eq_false_iff_ne.2 hkk
      go_wp2_with fail
      go_ret
      exact ⟨ret_b (by simp [haF, q4, qk]), HG1.out⟩
theorem haF_is {a : Sp} (hc : Canon a) {v : Val} (h1 : -9223372036854775808 ≤ v.i) (h2 : v.i ≤ 9223372036854775807) : haF a.kind a.lo a.hi a.frm a.to_ a.opn a.no v.k v.i v.t = has a v := by
  have hr : rightV v = Vals.right v.k v.i v.t := by unfold rightV; simp [h1, h2]
  unfold haF has
  rw [← hr]
  by_cases h0 : a.kind = 0
  · have e := kind_none hc h0
    subst e
    cases hv : rightV v with
    | false => rfl
    | true =>
      have hk : v.k ≠ 0 := by
        rw [hr] at hv
        rcases Vals.right_cases hv with ⟨h, _⟩ | ⟨h, _⟩ | ⟨h, _⟩ <;> omega
      have : ((0 : Int) == v.k) = false := beq_eq_false_iff_ne.2 (Ne.symm hk)
      simp [none_, this]
  · rw [if_neg h0]
    by_cases h4 : a.kind = 4
    · rw [if_pos h4]; simp [h4]
    · rw [if_neg h4]
      have q4 : (a.kind == 4) = false := beq_eq_false_iff_ne.2 h4
      rw [q4]
      by_cases hk : a.kind = v.k
      · have e : decide (v.k = a.kind) = true := decide_eq_true hk.symm
        rw [e]
        have e2 : (a.kind == v.k) = true := beq_iff_eq.2 hk
        rw [e2]
        cases rightV v <;> cases decide (v ∈ a.no) <;> simp
      · have e : decide (v.k = a.kind) = false := decide_eq_false (Ne.symm hk)
        have e2 : (a.kind == v.k) = false := beq_eq_false_iff_ne.2 hk
        rw [e, e2]
        cases rightV v <;> simp
end Go.Proofs.Ytckabmlilbkmbaa
namespace Go.Proofs.Ytckabmlilbkmbaa
open Go.RowKit Go.Sort Spans Op
end Go.Proofs.Ytckabmlilbkmbaa
namespace Go.Proofs.Ytckabmlilbkmbaa
open Go.RowKit Go.Sort Spans Op
/-- In, field by field. -/
def inF (K lo hi : Int) (f t : List UInt8) (o : Bool) (es : List Val) (K' lo' hi' : Int) (f' t' : List UInt8) (o' : Bool) (fs : List Val) : Bool :=
  if K = 0 ∨ K' = 4 then true else if K ≠ K' then false
  else !(fs.any fun v => haF K lo hi f t o es v.k v.i v.t) && (if K = 2 then !bytesLess f f' && (o' || (!o && !bytesLess t' t)) else decide (lo' ≤ lo) && decide (hi ≤ hi'))
set_option maxRecDepth 100000 in
set_option maxHeartbeats 4000000 in
theorem rinF_at (K lo hi : Int) (f t : List UInt8) (o : Bool) (A : Option Addr) (n c : Nat) (es : List Val) (K' lo' hi' : Int) (f' t' : List UInt8) (o' : Bool) (A' : Option Addr) (n' c' : Nat) (fs : List Val) (w : World) (hn : es.length = n) (hm : n ≤ 100000) (hn' : fs.length = n') (hm' : n' ≤ 100000)
    (hf : f.length ≤ 9223372036854775807) (ht : t.length ≤ 9223372036854775807) (hf' : f'.length ≤ 9223372036854775807) (ht' : t'.length ≤ 9223372036854775807) (hv : ∀ v ∈ fs, v.t.length ≤ 9223372036854775807) (hr : RdW w A es) (hr' : RdW w A' fs) :
    Calls Try.prog 37 #[spF K lo hi f t o A n c, spF K' lo' hi' f' t' o' A' n' c'] w fun e w' => e = .returned (.bool (inF K lo hi f t o es K' lo' hi' f' t' o' fs)) ∧ Grown w w' := by
  have HN := Lib.hid hn
  have HN' := Lib.hid hn'
  have HV := Lib.hid hv
  have HG0 := Lib.hid (gr2 w (.cells #[.int .i64 K, .int .i64 lo, .int .i64 hi, .string ⟨f.toArray⟩, .string ⟨t.toArray⟩, .bool o, .slice A n c] 58) (.cells #[.int .i64 K', .int .i64 lo', .int .i64 hi', .string ⟨f'.toArray⟩, .string ⟨t'.toArray⟩, .bool o', .slice A' n' c'] 58))
  have HR := Lib.hid (hr.below HG0.out.below)
  have HR' := Lib.hid (hr'.below HG0.out.below)
  have hX := (Blk.new w 58 #[.int .i64 K, .int .i64 lo, .int .i64 hi, .string ⟨f.toArray⟩, .string ⟨t.toArray⟩, .bool o, .slice A n c]).alloc (.cells #[.int .i64 K', .int .i64 lo', .int .i64 hi', .string ⟨f'.toArray⟩, .string ⟨t'.toArray⟩, .bool o', .slice A' n' c'] 58)
  have hY := Blk.new (w.alloc (.cells #[.int .i64 K, .int .i64 lo, .int .i64 hi, .string ⟨f.toArray⟩, .string ⟨t.toArray⟩, .bool o, .slice A n c] 58)) 58 #[.int .i64 K', .int .i64 lo', .int .i64 hi', .string ⟨f'.toArray⟩, .string ⟨t'.toArray⟩, .bool o', .slice A' n' c']
  rw [show (w.alloc (.cells #[.int .i64 K, .int .i64 lo, .int .i64 hi, .string ⟨f.toArray⟩, .string ⟨t.toArray⟩, .bool o, .slice A n c] 58)).heap.size = w.heap.size + 1 by simp] at hY
  clear hn hr hn' hr' hv
  by_cases h0 : K = 0
  · subst h0
    go_enter Try.func37, Try.ntmps37
    go_wp2_with fail
    go_ret
    exact ⟨ret_b (by simp [inF]), HG0.out⟩
  have q0 : (K == 0) = false := beq_eq_false_iff_ne.2 h0
  by_cases h4 : K' = 4
  · subst h4
    go_enter Try.func37, Try.ntmps37
    go_wp2_with fail
    go_ret
    exact ⟨ret_b (by simp [inF]), HG0.out⟩
  have q4 : (K' == 4) = false := beq_eq_false_iff_ne.2 h4
  by_cases hkk : K = K'
  · subst hkk
    have HIN : Hid (inF K lo hi f t o es K lo' hi' f' t' o' fs = (!(fs.any fun v => haF K lo hi f t o es v.k v.i v.t) && (if K = 2 then !bytesLess f f' && (o' || (!o && !bytesLess t' t)) else decide (lo' ≤ lo) && decide (hi ≤ hi')))) := by
      show _ = _
      unfold inF
      rw [if_neg (by simp [h0, h4]), if_neg (by simp)]
    go_enter Try.func37, Try.ntmps37
    go_wp2_with fail
    generalize ((w.alloc (.cells #[.int .i64 K, .int .i64 lo, .int .i64 hi, .string ⟨f.toArray⟩, .string ⟨t.toArray⟩, .bool o, .slice A n c] 58)).alloc (.cells #[.int .i64 K, .int .i64 lo', .int .i64 hi', .string ⟨f'.toArray⟩, .string ⟨t'.toArray⟩, .bool o', .slice A' n' c'] 58)) = w0 at *
    generalize w.heap.size = g0 at *
    go_loopg [5] n' (fun gg s5 wr => ∃ q : Nat, q ≤ n' ∧ n' - q ≤ gg ∧ s5 = .int .i64 (q : Int) ∧ Hid (Grown w0 wr) ∧ Hid (((fs.take q).any fun v => haF K lo hi f t o es v.k v.i v.t) = false))
    case atStart => exact ⟨0, Nat.zero_le _, by omega, rfl, Grown.refl w0, by show _ = _; rfl⟩
    case round =>
      obtain ⟨q, hq, hgg, rfl, HG, HA⟩ := hrel
      have hl1 := (Blk.below hX HG.out.below hX.lt).lt
      have hl2 := (Blk.below hY HG.out.below hY.lt).lt
      obtain ⟨a0, a1, a2, a3, a4, a5, a6, _⟩ := blk7 (Blk.below hX HG.out.below hX.lt)
      obtain ⟨b0, b1, b2, b3, b4, b5, b6, _⟩ := blk7 (Blk.below hY HG.out.below hY.lt)
      by_cases hlt : q < n'
      · have hk' : q < fs.length := by rw [HN'.out]; exact hlt
        obtain ⟨g, off, rfl, hg, c0, c1, c2⟩ := RdW.at3 (HR'.out.below HG.out.below) hk'
        obtain ⟨x, hx⟩ : ∃ x, fs[q] = x := ⟨_, rfl⟩
        have HX := Lib.hid hx
        have hxl : x.t.length ≤ 9223372036854775807 := HV.out x (hx ▸ List.getElem_mem hk')
        rw [hx] at c0 c1 c2
        clear hx
        obtain ⟨xk, xi, xt⟩ := x
        have w5 : (q : Int) < (n' : Int) := by omega
        have hS0 : (fun w' => w'.cell? ⟨g0, 0, none⟩ = some (.int .i64 K) ∧ w'.cell? ⟨g0, 1, none⟩ = some (.int .i64 lo) ∧ w'.cell? ⟨g0, 2, none⟩ = some (.int .i64 hi) ∧ w'.cell? ⟨g0, 3, none⟩ = some (.string ⟨f.toArray⟩) ∧ w'.cell? ⟨g0, 4, none⟩ = some (.string ⟨t.toArray⟩) ∧ w'.cell? ⟨g0, 5, none⟩ = some (.bool o) ∧ w'.cell? ⟨g0, 6, none⟩ = some (.slice A n c) ∧ w'.cell? ⟨g0 + 1, 6, none⟩ = some (.slice (some ⟨g, off, none⟩) n' c') ∧ w'.cell? ⟨g, off + q * 3, none⟩ = some (.int .i64 xk) ∧ w'.cell? ⟨g, off + q * 3 + 1, none⟩ = some (.int .i64 xi) ∧ w'.cell? ⟨g, off + q * 3 + 2, none⟩ = some (.string ⟨xt.toArray⟩)) wr.drew := ⟨a0, a1, a2, a3, a4, a5, a6, b6, c0, c1, c2⟩
        go_wp2_with fail
        refine wp_region_held_drew (S := fun w' => w'.cell? ⟨g0, 0, none⟩ = some (.int .i64 K) ∧ w'.cell? ⟨g0, 1, none⟩ = some (.int .i64 lo) ∧ w'.cell? ⟨g0, 2, none⟩ = some (.int .i64 hi) ∧ w'.cell? ⟨g0, 3, none⟩ = some (.string ⟨f.toArray⟩) ∧ w'.cell? ⟨g0, 4, none⟩ = some (.string ⟨t.toArray⟩) ∧ w'.cell? ⟨g0, 5, none⟩ = some (.bool o) ∧ w'.cell? ⟨g0, 6, none⟩ = some (.slice A n c) ∧ w'.cell? ⟨g0 + 1, 6, none⟩ = some (.slice (some ⟨g, off, none⟩) n' c') ∧ w'.cell? ⟨g, off + q * 3, none⟩ = some (.int .i64 xk) ∧ w'.cell? ⟨g, off + q * 3 + 1, none⟩ = some (.int .i64 xi) ∧ w'.cell? ⟨g, off + q * 3 + 2, none⟩ = some (.string ⟨xt.toArray⟩)) (by kernel_rfl) hS0 (fun _ => ?_)
        refine wpAnyH_yes (i := 0) (d := 26) (v := ?_) rfl rfl (by kernel_rfl) (by kernel_rfl) (by kernel_rfl) (fun _ _ _ h => h) (by rfl) ?_ hS0 ?_
        rotate_left
        · intro w' hSw; obtain ⟨m0, m1, m2, m3, m4, m5, m6, m7, m8, m9, m10⟩ := hSw; go_simp <;> with_reducible rfl
        simp only [Act.put, List.setIfInBounds_toArray, List.set_cons_zero, List.set_cons_succ]
        refine wpAnyH_yes (i := 1) (d := 27) (v := ?_) rfl rfl (by kernel_rfl) (by kernel_rfl) (by kernel_rfl) (fun _ _ _ h => h) (by rfl) ?_ hS0 ?_
        rotate_left
        · intro w' hSw; obtain ⟨m0, m1, m2, m3, m4, m5, m6, m7, m8, m9, m10⟩ := hSw; go_simp <;> with_reducible rfl
        simp only [Act.put, List.setIfInBounds_toArray, List.set_cons_zero, List.set_cons_succ]
        refine wpAnyH_yes (i := 2) (d := 28) (v := ?_) rfl rfl (by kernel_rfl) (by kernel_rfl) (by kernel_rfl) (fun _ _ _ h => h) (by rfl) ?_ hS0 ?_
        rotate_left
        · intro w' hSw; obtain ⟨m0, m1, m2, m3, m4, m5, m6, m7, m8, m9, m10⟩ := hSw; go_simp <;> with_reducible rfl
        simp only [Act.put, List.setIfInBounds_toArray, List.set_cons_zero, List.set_cons_succ]
        refine wpAnyH_yes (i := 3) (d := 29) (v := ?_) rfl rfl (by kernel_rfl) (by kernel_rfl) (by kernel_rfl) (fun _ _ _ h => h) (by rfl) ?_ hS0 ?_
        rotate_left
        · intro w' hSw; obtain ⟨m0, m1, m2, m3, m4, m5, m6, m7, m8, m9, m10⟩ := hSw; go_simp <;> with_reducible rfl
        simp only [Act.put, List.setIfInBounds_toArray, List.set_cons_zero, List.set_cons_succ]
        refine wpAnyH_yes (i := 4) (d := 30) (v := ?_) rfl rfl (by kernel_rfl) (by kernel_rfl) (by kernel_rfl) (fun _ _ _ h => h) (by rfl) ?_ hS0 ?_
        rotate_left
        · intro w' hSw; obtain ⟨m0, m1, m2, m3, m4, m5, m6, m7, m8, m9, m10⟩ := hSw; go_simp <;> with_reducible rfl
        simp only [Act.put, List.setIfInBounds_toArray, List.set_cons_zero, List.set_cons_succ]
        refine wpAnyH_yes (i := 5) (d := 31) (v := ?_) rfl rfl (by kernel_rfl) (by kernel_rfl) (by kernel_rfl) (fun _ _ _ h => h) (by rfl) ?_ hS0 ?_
        rotate_left
        · intro w' hSw; obtain ⟨m0, m1, m2, m3, m4, m5, m6, m7, m8, m9, m10⟩ := hSw; go_simp <;> with_reducible rfl
        simp only [Act.put, List.setIfInBounds_toArray, List.set_cons_zero, List.set_cons_succ]
        refine wpAnyH_one (i := 6) (by kernel_rfl) rfl (by rfl) (fun Kx hK6 => ?_)
        go_simp
        with_reducible refine (rhasF_at K lo hi f t o A n c es xk xi xt wr.drew HN.out hm hxl hf ht (HR.out.below HG.out.drew.below)).mono ?_
        rintro e w2 ⟨rfl, hg2⟩
        have HG2 := Lib.hid (HG.out.drew.trans hg2)
        have hS2 : (fun w' => w'.cell? ⟨g0, 0, none⟩ = some (.int .i64 K) ∧ w'.cell? ⟨g0, 1, none⟩ = some (.int .i64 lo) ∧ w'.cell? ⟨g0, 2, none⟩ = some (.int .i64 hi) ∧ w'.cell? ⟨g0, 3, none⟩ = some (.string ⟨f.toArray⟩) ∧ w'.cell? ⟨g0, 4, none⟩ = some (.string ⟨t.toArray⟩) ∧ w'.cell? ⟨g0, 5, none⟩ = some (.bool o) ∧ w'.cell? ⟨g0, 6, none⟩ = some (.slice A n c) ∧ w'.cell? ⟨g0 + 1, 6, none⟩ = some (.slice (some ⟨g, off, none⟩) n' c') ∧ w'.cell? ⟨g, off + q * 3, none⟩ = some (.int .i64 xk) ∧ w'.cell? ⟨g, off + q * 3 + 1, none⟩ = some (.int .i64 xi) ∧ w'.cell? ⟨g, off + q * 3 + 2, none⟩ = some (.string ⟨xt.toArray⟩)) w2 := by
          obtain ⟨a0, a1, a2, a3, a4, a5, a6, _⟩ := blk7 (Blk.below hX HG2.out.below hX.lt)
          obtain ⟨_, _, _, _, _, _, b6, _⟩ := blk7 (Blk.below hY HG2.out.below hY.lt)
          exact ⟨a0, a1, a2, a3, a4, a5, a6, b6, (hg2.below.cell (p := ⟨g, off + q * 3, none⟩) hg).trans c0, (hg2.below.cell (p := ⟨g, off + q * 3 + 1, none⟩) hg).trans c1, (hg2.below.cell (p := ⟨g, off + q * 3 + 2, none⟩) hg).trans c2⟩
        go_wp2_with fail
        refine hK6.out _ _ hS2 ?_
        refine wpAnyH_done (by kernel_rfl) ?_ _
        clear a0 a1 a2 a3 a4 a5 a6 b0 b1 b2 b3 b4 b5 b6 c0 c1 c2 hS0 hS2 w5
        cases hh : haF K lo hi f t o es xk xi xt with
        | true =>
          have HM : Hid ((fs.any fun v => haF K lo hi f t o es v.k v.i v.t) = true) := List.any_eq_true.2 ⟨⟨xk, xi, xt⟩, by rw [← HX.out]; exact List.getElem_mem hk', hh⟩
          clear hh
          go_wp2_with fail
          go_ret
          exact ⟨ret_b (by rw [HIN.out, HM.out]; rfl), HG0.out.trans HG2.out⟩
        | false =>
          have HQ : Hid (((fs.take (q + 1)).any fun v => haF K lo hi f t o es v.k v.i v.t) = false) := by
            show _ = _
            rw [takeS hk', HX.out, List.any_append, HA.out]
            simp [hh]
          clear hh
          go_wp2_with fail
          go_roundg (n' - (q + 1))
          case measure => omega
          case rel => exact ⟨q + 1, by omega, Nat.le_refl _, by go_num, HG2, HQ⟩
      · have hkn : q = n' := by omega
        have HAN : Hid (inF K lo hi f t o es K lo' hi' f' t' o' fs = (if K = 2 then !bytesLess f f' && (o' || (!o && !bytesLess t' t)) else decide (lo' ≤ lo) && decide (hi ≤ hi'))) := by
          show _ = _
          have := HA.out
          rw [hkn, List.take_of_length_le (by rw [HN'.out]; exact Nat.le_refl _)] at this
          rw [HIN.out, this]
          rfl
        clear hkn
        by_cases h2 : K = 2
        · subst h2
          obtain ⟨z1, hz1⟩ : ∃ z, Vals.cmpT f f' = z := ⟨_, rfl⟩
          have HZ1 := Lib.hid hz1
          clear hz1
          go_wp2_with fail
          refine (textG_at f f' hf hf' wr).mono ?_
          rintro e w3 ⟨rfl, hg3⟩
          rw [HZ1.out]
          have HG3 := Lib.hid (HG.out.trans hg3)
          clear a0 a1 a2 a3 a4 a5 a6 b0 b1 b2 b3 b4 b5 b6 hl1 hl2
          have hl1 := (Blk.below hX HG3.out.below hX.lt).lt
          have hl2 := (Blk.below hY HG3.out.below hY.lt).lt
          obtain ⟨a0, a1, a2, a3, a4, a5, a6, _⟩ := blk7 (Blk.below hX HG3.out.below hX.lt)
          obtain ⟨b0, b1, b2, b3, b4, b5, b6, _⟩ := blk7 (Blk.below hY HG3.out.below hY.lt)
          cases hlf : bytesLess f f' with
          | true =>
            have u5 : decide (0 ≤ z1) = false := decide_eq_false (by rw [← HZ1.out]; have := (cmpT_neg_iff f f').2 hlf; omega)
            have HLF := Lib.hid hlf
            clear hlf
            go_wp2_with fail
            go_ret
            exact ⟨ret_b (by rw [HAN.out, if_pos True.intro, HLF.out]; rfl), HG0.out.trans HG3.out⟩
          | false =>
            have u5 : decide (0 ≤ z1) = true := decide_eq_true (by rw [← HZ1.out]; have : ¬ Vals.cmpT f f' < 0 := (fun h => by have := (cmpT_neg_iff f f').1 h; rw [hlf] at this; cases this); omega)
            have HLF := Lib.hid hlf
            clear hlf
            cases o' with
            | true =>
              go_wp2_with fail
              go_ret
              exact ⟨ret_b (by rw [HAN.out, if_pos True.intro, HLF.out]; rfl), HG0.out.trans HG3.out⟩
            | false =>
              cases o with
              | true =>
                go_wp2_with fail
                go_ret
                exact ⟨ret_b (by rw [HAN.out, if_pos True.intro, HLF.out]; rfl), HG0.out.trans HG3.out⟩
              | false =>
                obtain ⟨z2, hz2⟩ : ∃ z, Vals.cmpT t t' = z := ⟨_, rfl⟩
                have HZ2 := Lib.hid hz2
                clear hz2
                go_wp2_with fail
                refine (textG_at t t' ht ht' w3).mono ?_
                rintro e w4 ⟨rfl, hg4⟩
                rw [HZ2.out]
                have HG4 := Lib.hid (HG3.out.trans hg4)
                cases hlt : bytesLess t' t with
                | true =>
                  have u6 : decide (z2 ≤ 0) = false := decide_eq_false (by rw [← HZ2.out]; have := (cmpT_pos_iff t t').2 hlt; omega)
                  have HLT := Lib.hid hlt
                  clear hlt
                  go_wp2_with fail
                  go_ret
                  exact ⟨ret_b (by rw [HAN.out, if_pos True.intro, HLF.out, HLT.out]; rfl), HG0.out.trans HG4.out⟩
                | false =>
                  have u6 : decide (z2 ≤ 0) = true := decide_eq_true (by rw [← HZ2.out]; exact (Vals.cmpT_le t t').2 hlt)
                  have HLT := Lib.hid hlt
                  clear hlt
                  go_wp2_with fail
                  go_ret
                  exact ⟨ret_b (by rw [HAN.out, if_pos True.intro, HLF.out, HLT.out]; rfl), HG0.out.trans HG4.out⟩
        · have q2 : (K == 2) = false := beq_eq_false_iff_ne.2 h2
          by_cases ha : lo' ≤ lo
          · have d1 : decide (lo' ≤ lo) = true := decide_eq_true ha
            by_cases hb : hi ≤ hi'
            · have d2 : decide (hi ≤ hi') = true := decide_eq_true hb
              go_wp2_with fail
              go_ret
              exact ⟨ret_b (by rw [HAN.out, if_neg h2, d1, d2]; rfl), HG0.out.trans HG.out⟩
            · have d2 : decide (hi ≤ hi') = false := decide_eq_false hb
              go_wp2_with fail
              go_ret
              exact ⟨ret_b (by rw [HAN.out, if_neg h2, d1, d2]; rfl), HG0.out.trans HG.out⟩
          · have d1 : decide (lo' ≤ lo) = false := decide_eq_false ha
            go_wp2_with fail
            go_ret
            exact ⟨ret_b (by rw [HAN.out, if_neg h2, d1]; rfl), HG0.out.trans HG.out⟩
  · have qk : (K == K') = false := beq_eq_false_iff_ne.2 hkk
    go_enter Try.func37, Try.ntmps37
    go_wp2_with fail
    go_ret
    exact ⟨ret_b (by simp [inF, h0, h4, hkk]), HG0.out⟩
end Go.Proofs.Ytckabmlilbkmbaa
namespace Go.Proofs.Ytckabmlilbkmbaa
open Go.RowKit Go.Sort Spans Op
theorem canon_bd {a : Sp} (h : Canon a) : a.frm.length ≤ 33 ∧ a.to_.length ≤ 33 ∧ -9223372036854775808 ≤ a.lo ∧ a.lo ≤ 9223372036854775807 ∧ -9223372036854775808 ≤ a.hi ∧ a.hi ≤ 9223372036854775807 := by
  rcases h with rfl | rfl | h | h
  · simp [none_]
  · simp [any_]
  · have h1 := h.low
    have h2 := h.ord
    have h3 := h.high
    have h4 : -9223372036854775808 ≤ lowest a.kind := by unfold lowest; split <;> omega
    have h5 : highest a.kind ≤ 9223372036854775807 := by unfold highest; split <;> omega
    rw [h.frm, h.to_]
    simp
    omega
  · refine ⟨h.flen.len, ?_, by rw [h.lo]; decide, by rw [h.lo]; decide, by rw [h.hi]; decide, by rw [h.hi]; decide⟩
    cases ho : a.opn with
    | true => rw [h.isOpn ho]; simp
    | false => exact (h.shut ho).1.len
theorem inF_is {a b : Sp} (ha : Canon a) (hb : Canon b) : inF a.kind a.lo a.hi a.frm a.to_ a.opn a.no b.kind b.lo b.hi b.frm b.to_ b.opn b.no = inn a b := by
  unfold inF inn
  have e : (b.no.any fun v => haF a.kind a.lo a.hi a.frm a.to_ a.opn a.no v.k v.i v.t) = b.no.any fun v => has a v := by
    have h1 : ∀ v ∈ b.no, haF a.kind a.lo a.hi a.frm a.to_ a.opn a.no v.k v.i v.t = has a v := fun v hv => by
      have h2 := (rightV_iff v).1 (no_right hb v hv).1
      exact haF_is ha h2.2.1 h2.2.2
    rw [Bool.eq_iff_iff, List.any_eq_true, List.any_eq_true]
    exact ⟨fun ⟨v, hv, h⟩ => ⟨v, hv, (h1 v hv) ▸ h⟩, fun ⟨v, hv, h⟩ => ⟨v, hv, (h1 v hv).symm ▸ h⟩⟩
  rw [e]
theorem rin_at (a b : Sp) (ha : Canon a) (hb : Canon b) (A : Option Addr) (n c : Nat) (A' : Option Addr) (n' c' : Nat) (w : World) (hn : a.no.length = n) (hm : n ≤ 100000) (hn' : b.no.length = n') (hm' : n' ≤ 100000) (hr : RdW w A a.no) (hr' : RdW w A' b.no) (q : Bool) (hq : inn a b = q) :
    Calls Try.prog 37 #[spF a.kind a.lo a.hi a.frm a.to_ a.opn A n c, spF b.kind b.lo b.hi b.frm b.to_ b.opn A' n' c'] w fun e w' => e = .returned (.bool q) ∧ Grown w w' := by
  subst hq
  rw [← inF_is ha hb]
  have h1 := canon_bd ha
  have h2 := canon_bd hb
  exact rinF_at _ _ _ _ _ _ A n c _ _ _ _ _ _ _ A' n' c' _ w hn hm hn' hm' (by omega) (by omega) (by omega) (by omega) (fun v hv => by have := (no_right hb v hv).2; omega) hr hr'
theorem rdk_own' {α : Type} {L : Lay α} {w : World} {base : Nat} {A : Option Addr} {n c : Nat} {es : List α} (h : OwnK L w base (.slice A n c) es) : RdK L w A es := by
  obtain ⟨B, d, e, _, hr⟩ := h.rd
  injection e with e1 _ _
  subst e1
  exact hr
/-- A span is handed back, whose row lies behind a place. -/
def GivesB (base : Nat) (w : World) (a : Sp) (e : Ending) (w' : World) : Prop := ∃ A n c, e = .returned (spF a.kind a.lo a.hi a.frm a.to_ a.opn A n c) ∧ a.no.length = n ∧ n ≤ c ∧ OwnW w' base (.slice A n c) a.no ∧ Below w.heap.size w w'
theorem Gives.b {base : Nat} {w w' : World} {a : Sp} {e : Ending} (h : Gives w a e w') (hb : base ≤ w.heap.size) : GivesB base w a e w' := by
  obtain ⟨A, n, c, h1, h2, h3, h4, h5⟩ := h
  exact ⟨A, n, c, h1, h2, h3, h4.less hb, h5⟩
end Go.Proofs.Ytckabmlilbkmbaa
