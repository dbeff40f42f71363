/- Contracts of the program and of the document (RNames, RNorm), each used further on. -/
import Derived.Test.YtckabmlilbkmbaaA4
import Derived.Test.YtckabmlilbkmbaaD2
import Derived.Test.YtckabmlilbkmbaaT1
import Derived.Test.YtckabmlilbkmbaaE1
import Derived.Test.YtckabmlilbkmbaaE8
import Derived.Test.YtckabmlilbkmbaaF1
import Derived.Test.YtckabmlilbkmbaaF2
namespace Go.Proofs.Ytckabmlilbkmbaa
open Go.RowKit Go.Sort Spans Op
theorem text_insert {out : List (List UInt8)} {x : List UInt8} {k : Nat} (h : out.Pairwise (fun a b => bytesLess a b = true)) (hk : k ≤ out.length) (h1 : ∀ j (hj : j < out.length), j < k → bytesLess out[j] x = true) (h2 : ∀ (hj : k < out.length), bytesLess x out[k] = true) : (out.take k ++ x :: out.drop k).Pairwise (fun a b => bytesLess a b = true) := by
  have hp := List.pairwise_iff_getElem.1 h
  rw [List.pairwise_append]
  refine ⟨h.sublist (List.take_sublist _ _), ?_, ?_⟩
  · rw [List.pairwise_cons]
    refine ⟨fun a ha => ?_, h.sublist (List.drop_sublist _ _)⟩
    obtain ⟨m, hm, rfl⟩ := List.getElem_of_mem ha
    rw [List.length_drop] at hm
    rw [List.getElem_drop]
    have h0 := h2 (by omega)
    rcases Nat.eq_zero_or_pos m with e | e
    · subst e; exact h0
    · exact Vals.less_trans _ _ _ h0 (hp k (k + m) (by omega) (by omega) (by omega))
  · intro a ha b hb
    obtain ⟨m, hm, rfl⟩ := List.getElem_of_mem ha
    rw [List.length_take] at hm
    rw [List.getElem_take]
    have h0 := h1 m (by omega) (by omega)
    rcases List.mem_cons.1 hb with rfl | hb
    · exact h0
    · obtain ⟨q, hq, rfl⟩ := List.getElem_of_mem hb
      rw [List.length_drop] at hq
      rw [List.getElem_drop]
      exact hp m (k + q) (by omega) (by omega) (by omega)
theorem names_put {f : List Pr} {p : Pr} {out : List (List UInt8)} {k : Nat} (h : Fil.IsNames f out) (hk : k ≤ out.length) (h1 : ∀ j (hj : j < out.length), j < k → bytesLess out[j] p.n = true) (h2 : ∀ (hj : k < out.length), bytesLess p.n out[k] = true) : Fil.IsNames (f ++ [p]) (out.take k ++ p.n :: out.drop k) := by
  refine ⟨text_insert h.1 hk h1 h2, fun n => ?_⟩
  rw [Fil.asked_app, ← h.2 n, List.mem_append, List.mem_cons]
  have h3 : n ∈ out ↔ n ∈ out.take k ∨ n ∈ out.drop k := by rw [← List.mem_append, List.take_append_drop]
  have h4 : Fil.Asked [p] n ↔ n = p.n := by
    unfold Fil.Asked
    constructor
    · rintro ⟨q, hq, rfl⟩; simp at hq; rw [hq]
    · rintro rfl; exact ⟨p, by simp, rfl⟩
  rw [h3, h4]
  constructor
  · rintro (h | h | h)
    · exact .inl (.inl h)
    · exact .inr h
    · exact .inl (.inr h)
  · rintro ((h | h) | h)
    · exact .inl h
    · exact .inr (.inr h)
    · exact .inr (.inl h)
theorem names_same {f : List Pr} {p : Pr} {out : List (List UInt8)} (h : Fil.IsNames f out) (hp : p.n ∈ out) : Fil.IsNames (f ++ [p]) out := by
  refine ⟨h.1, fun n => ?_⟩
  rw [Fil.asked_app, ← h.2 n]
  constructor
  · exact .inl
  · rintro (h1 | ⟨q, hq, rfl⟩)
    · exact h1
    · simp at hq; rw [hq]; exact hp
set_option maxRecDepth 100000 in
set_option maxHeartbeats 4000000 in
theorem rnames_at (A : Option Addr) (f : List Pr) (n c : Nat) (hn : f.length = n) (hm : n ≤ 1000) (hl : ∀ p ∈ f, p.n.length ≤ 1000) (w : World) (hr : RdQ w A f) :
    Calls Try.prog 36 #[.slice A n c] w fun e w' => ∃ L B m d, e = .returned (.slice B m d) ∧ Fil.IsNames f L ∧ L.length = m ∧ m ≤ n ∧ m ≤ d ∧ OwnTx w' w.heap.size (.slice B m d) L ∧ Below w.heap.size w w' := by
  have HN := Lib.hid hn
  have HLL := Lib.hid hl
  have HR := Lib.hid hr
  clear hn hl hr
  go_enter Try.func36, Try.ntmps36
  go_wp2_with fail
  go_loopg [3, 4] n (fun gg s3 s4 wr => ∃ (i : Nat) (out : List (List UInt8)) (B : Option Addr) (m d : Nat), i ≤ n ∧ n - i ≤ gg ∧ s4 = .int .i64 (i : Int) ∧ s3 = .slice B m d ∧ m ≤ i ∧ m ≤ d ∧ Hid (Fil.IsNames (f.take i) out) ∧ Hid (out.length = m) ∧ Hid (OwnTx wr w.heap.size (.slice B m d) out) ∧ Hid (Below w.heap.size w wr))
  case atStart => exact ⟨0, [], none, 0, 0, Nat.zero_le _, by omega, rfl, rfl, Nat.le_refl _, Nat.le_refl _, by show Fil.IsNames _ _; exact Fil.IsNames.nil, rfl, OwnZ.none_ _ _, Below.refl _ _⟩
  case round =>
    obtain ⟨i, out, B, m, d, hi, hgg, rfl, rfl, hmi, hmd, HRS, HM, HO, HB⟩ := hrel
    by_cases hlt : i < n
    · have hi' : i < f.length := by rw [HN.out]; exact hlt
      obtain ⟨g, off, rfl, hg, c0, _, _, _, _⟩ := RdQ.at5 HR.out hi'
      have hxl := HLL.out _ (List.getElem_mem hi')
      obtain ⟨x, hx⟩ : ∃ x, f[i] = x := ⟨_, rfl⟩
      have HX := Lib.hid hx
      rw [hx] at c0 hxl
      obtain ⟨xn, xo, xk, xi, xt⟩ := x
      dsimp only at c0 hxl
      have hi1 : (i : Int) < (n : Int) := by omega
      have HC := Lib.hid c0
      have HG0 : Hid (g < w.heap.size) := hg
      clear hx c0 hg
      have HTL : Hid (∀ v ∈ out, v.length ≤ 1000) := fun v hv => by
        obtain ⟨p, hp, rfl⟩ := (HRS.out.2 v).1 hv
        exact HLL.out p (List.mem_of_mem_take hp)
      obtain ⟨wo, rfl⟩ : ∃ wo : World, wo = wr := ⟨_, rfl⟩
      go_wp2_with fail
      go_loopg [5] m (fun g2 kv wy => ∃ k : Nat, k + g2 = m ∧ kv = .int .i64 (k : Int) ∧ Hid (Below wo.heap.size wo wy) ∧ Hid (∀ j (hj : j < out.length), j < k → Go.Op.bytesLess out[j] xn = true))
      case atStart => exact ⟨0, by omega, rfl, Below.refl _ _, fun j hj h => absurd h (by omega)⟩
      case round =>
        obtain ⟨k, hkg, rfl, HG, HL⟩ := hrel
        have O := Lib.hid (OwnZ.below HO.out HG.out)
        have BB := Lib.hid (below_next HB.out (Nat.le_refl _) HG.out)
        have z0 := gx_cell ((BB.out.cell (p := ⟨g, off + i * 5, none⟩) HG0.out).trans HC.out)
        cases gk with
        | zero =>
          obtain rfl : k = m := by omega
          go_wp2_with fail
          (refine qb_region mixedT (by kernel_rfl) ?_; (repeat (refine hq_step (fun K hK => ?_); go_simp; first | (refine hK _ ?_; clear hK K) | (apply Exists.intro; refine ⟨fun _ => ?_, hK _ ?_⟩; (fail); clear hK K))); refine hq_nil ?_; intro _ hw'; obtain ⟨⟨nq, osq⟩, hw''⟩ := hw'; subst hw'')
          have hb := below_gx wr nq osq
          generalize gx wr nq osq = w1 at *
          replace O := Lib.hid (OwnZ.below O.out hb)
          replace BB := Lib.hid (below_next BB.out (Nat.le_refl _) hb)
          clear hb z0
          have z0 := gx_cell ((BB.out.cell (p := ⟨g, off + i * 5, none⟩) HG0.out).trans HC.out)
          have hkk : ((k : Int) == (k : Int)) = true := by simp
          go_wp2_with fail
          (refine qb_region mixedT (by kernel_rfl) ?_; (repeat (refine hq_step (fun K hK => ?_); go_simp; first | (refine hK _ ?_; clear hK K) | (apply Exists.intro; refine ⟨fun _ => ?_, hK _ ?_⟩; (fail); clear hK K))); refine hq_nil ?_; intro _ hw'; obtain ⟨⟨nq, osq⟩, hw''⟩ := hw'; subst hw'')
          have hb := below_gx w1 nq osq
          generalize gx w1 nq osq = w2 at *
          replace O := Lib.hid (OwnZ.below O.out hb)
          replace BB := Lib.hid (below_next BB.out (Nat.le_refl _) hb)
          clear hb z0 hkk
          have HR9 : Hid (Fil.IsNames (f.take (i + 1)) (out.take k ++ xn :: out.drop k)) := by
            show Fil.IsNames _ _
            rw [List.take_succ_eq_append_getElem hi', HX.out]
            exact names_put HRS.out (by rw [HM.out]; exact Nat.le_refl _) HL.out (fun hj => absurd hj (by rw [HM.out]; omega))
          have hro := rdz_own O.out
          have hdw := O.out
          obtain ⟨Bc, hcut, hRc⟩ := run_cutTx (k := k) hro HM.out (by omega) hmd
          rw [Nat.sub_self] at hcut
          have hhead := run_headTx (B) k d k (by omega) hmd
          have hRh : RdTx w2 (B) (out.take k) := RdZ.take hro k
          have hb0 : Below w2.heap.size w2 (w2.alloc (.cells #[] 9)) := (gr1 w2 _).below
          have hO0 : OwnTx (w2.alloc (.cells #[] 9)) w2.heap.size (.slice (some ⟨w2.heap.size, 0, none⟩) 0 0) [] := OwnZ.empty w2 w2.heap.size (Nat.le_refl _)
          have hR0 := RdZ.below hRh hb0
          have hs0 : w2.heap.size ≤ (w2.alloc (.cells #[] 9)).heap.size := hb0.size
          have hlk : (out.take k).length = k := by rw [List.length_take, HM.out]; omega
          have hld : (out.drop k).length = 0 := by have h1 := HM.out; rw [List.length_drop]; omega
          have hl9 : (out.take k ++ xn :: out.drop k).length = k + 1 := by have h1 := hlk; have h2 := hld; rw [List.length_append, List.length_cons]; omega
          have HL9 := Lib.hid hl9
          have q0 := (BB.out.cell (p := ⟨g, off + i * 5, none⟩) HG0.out).trans HC.out
          have hg3 : g < w2.heap.size := Nat.lt_of_lt_of_le HG0.out BB.out.size
          go_wp2_with (first
            | (at_builtin; refine wpList_append_z layT (by rfl) (.tmp 48) (.tmp 51) 67 underT rfl w2.heap.size _ [] (by rfl) hO0 (B) (out.take k) k d (by rfl) hR0 hlk (by rw [maxLen_num]; simp only [List.length_nil]; omega) (by simp only [layT, List.length_nil]; omega) hs0 ?_; intro v1 x1 o1 b1 g1 l1; rw [List.nil_append] at o1; have hB1 := b1 w2 hb0; have d0 := (hB1.cell (p := ⟨g, off + i * 5, none⟩) hg3).trans q0; have hrx := rdz_one layT x1 xn 9 #[.string ⟨xn.toArray⟩] rfl; have hbx : Below x1.heap.size x1 (x1.alloc (.cells #[.string ⟨xn.toArray⟩] 9)) := (gr1 x1 _).below; have oo1 := OwnZ.below o1 hbx; have hBx := below_next hB1 (Nat.le_refl _) hbx; have hs1 : w2.heap.size ≤ (x1.alloc (.cells #[.string ⟨xn.toArray⟩] 9)).heap.size := hBx.size; have hgx : g < x1.heap.size := Nat.lt_of_lt_of_le hg3 hB1.size; clear b1 g1 l1 hb0 hO0 hR0 hs0 hbx o1 hhead hRh)
            | (at_builtin; refine wpList_append_z layT (by rfl) (.tmp 53) (.tmp 59) 67 underT rfl w2.heap.size _ (out.take k) (by rfl) oo1 _ [xn] 1 1 (by rfl) hrx rfl (by rw [maxLen_num, hlk]; omega) (by simp only [layT]; rw [hlk]; omega) hs1 ?_; intro v2 x2 o2 b2 g2 l2; have hB2 := b2 w2 hBx; have hR2 := RdZ.below hRc hB2; have hs2 : w2.heap.size ≤ x2.heap.size := hB2.size; clear b2 g2 l2 oo1 hrx hs1 d0 hgx)
            | (at_builtin; refine wpList_append_z layT (by rfl) (.tmp 61) (.tmp 64) 67 underT rfl w2.heap.size _ (out.take k ++ [xn]) (by rfl) o2 Bc (out.drop k) (0) (d - k) (by rfl) hR2 hld (by rw [maxLen_num, List.length_append, hlk]; simp only [List.length_cons, List.length_nil]; omega) (by simp only [layT]; rw [List.length_append, hlk]; simp only [List.length_cons, List.length_nil]; omega) hs2 ?_; intro v3 x3 o3 b3 g3 l3; have hB9 := b3 w2 hB2; rw [List.append_assoc, List.singleton_append] at o3; obtain ⟨A9, c9, hv9, hc9, hr9⟩ := OwnZ.form o3 HL9.out; subst hv9; clear b3 g3 l3 o2 hR2 hs2))
          have HB9 := Lib.hid (below_next BB.out (Nat.le_refl _) hB9)
          have HO9 : Hid (OwnTx x3 w.heap.size (.slice A9 (k + 1) c9) (out.take k ++ xn :: out.drop k)) := OwnZ.less o3 BB.out.size
          clear hB9 o3 hr9 hro hdw hcut hRc hlk hld hl9 q0 hg3 hB1 hB2 hBx
          go_wp2_with fail
          go_roundg (n - (i + 1))
          case measure => omega
          case rel => exact ⟨i + 1, _, A9, k + 1, c9, by omega, Nat.le_refl _, by go_num, rfl, by omega, hc9, HR9, HL9, HO9, HB9⟩
        | succ gk =>
          have hkm : k < m := by omega
          have hkm' : k < out.length := by rw [HM.out]; exact hkm
          obtain ⟨gb, ob, hBa, hgb, b0⟩ := RdTx.at1 (rdz_own O.out) hkm'
          obtain ⟨p, hp⟩ : ∃ p, out[k] = p := ⟨_, rfl⟩
          have hpl := HTL.out _ (List.getElem_mem hkm')
          have HP := Lib.hid hp
          rw [hp] at b0 hpl
          clear hp
          subst hBa
          have f0 := gx_cell b0
          have hk1 : (k : Int) < (m : Int) := by omega
          obtain ⟨z, hz⟩ : ∃ z, Vals.cmpT p xn = z := ⟨_, rfl⟩
          have HZ := Lib.hid hz
          clear hz
          have C1 : Hid (∀ n os, Calls Try.prog 48 #[.string ⟨p.toArray⟩, .string ⟨xn.toArray⟩] (gx wr n os) fun e w' => e = .returned (.int .i64 z) ∧ Grown (gx wr n os) w') := fun n os => by rw [← HZ.out]; exact textG_at p xn (by omega) (by omega) _
          by_cases hneg : z < 0
          · have hd : decide (z < 0) = true := decide_eq_true hneg
            have HL2 : Hid (∀ j (hj : j < out.length), j < k + 1 → Go.Op.bytesLess out[j] xn = true) := fun j hj h => by
              rcases Nat.lt_or_ge j k with e | e
              · exact HL.out j hj e
              · obtain rfl : j = k := by omega
                rw [HP.out]
                exact (cmpT_neg_iff p xn).1 (by rw [HZ.out]; exact hneg)
            clear b0 hneg
            go_wp2_with fail
            (refine qb_region mixedT (by kernel_rfl) ?_; (repeat (refine hq_step (fun K hK => ?_); go_simp; first | (refine hK _ ?_; clear hK K) | (apply Exists.intro; refine ⟨fun _ => ?_, hK _ ?_⟩; (go_at_call 48; with_reducible exact calls_gr (C1.out _ _)); clear hK K))); refine hq_nil ?_; intro _ hw'; obtain ⟨⟨nq, osq⟩, hw''⟩ := hw'; subst hw'')
            have hb := below_gx wr nq osq
            generalize gx wr nq osq = w2 at *
            have HG2 := Lib.hid (below_next HG.out (Nat.le_refl _) hb)
            clear f0 z0 C1 hd HG O BB hb
            go_wp2_with fail
            go_roundg gk
            case measure => omega
            case rel => exact ⟨k + 1, by omega, by go_num, HG2, HL2⟩
          · have hd : decide (z < 0) = false := decide_eq_false hneg
            have HZ0 := Lib.hid hneg
            clear hneg
            go_wp2_with fail
            (refine qb_region mixedT (by kernel_rfl) ?_; (repeat (refine hq_step (fun K hK => ?_); go_simp; first | (refine hK _ ?_; clear hK K) | (apply Exists.intro; refine ⟨fun _ => ?_, hK _ ?_⟩; (go_at_call 48; with_reducible exact calls_gr (C1.out _ _)); clear hK K))); refine hq_nil ?_; intro _ hw'; obtain ⟨⟨nq, osq⟩, hw''⟩ := hw'; subst hw'')
            have hb := below_gx wr nq osq
            generalize gx wr nq osq = w1 at *
            have b1 := (hb.cell (p := ⟨gb, ob + k, none⟩) hgb).trans b0
            have hgb1 := Nat.lt_of_lt_of_le hgb hb.size
            replace O := Lib.hid (OwnZ.below O.out hb)
            replace BB := Lib.hid (below_next BB.out (Nat.le_refl _) hb)
            clear hb z0 f0 C1 hd b0
            have z0 := gx_cell ((BB.out.cell (p := ⟨g, off + i * 5, none⟩) HG0.out).trans HC.out)
            have f0 := gx_cell b1
            have hkk : ((k : Int) == (m : Int)) = false := by simp; omega
            by_cases heq : p = xn
            · subst heq
              go_wp2_with fail
              (refine qb_region mixedT (by kernel_rfl) ?_; (repeat (refine hq_step (fun K hK => ?_); go_simp; first | (refine hK _ ?_; clear hK K) | (apply Exists.intro; refine ⟨fun _ => ?_, hK _ ?_⟩; (fail); clear hK K))); refine hq_nil ?_; intro _ hw'; obtain ⟨⟨nq, osq⟩, hw''⟩ := hw'; subst hw'')
              have hb := below_gx w1 nq osq
              generalize gx w1 nq osq = w2 at *
              replace O := Lib.hid (OwnZ.below O.out hb)
              replace BB := Lib.hid (below_next BB.out (Nat.le_refl _) hb)
              clear hb z0 f0 b1 hkk
              have HR9 : Hid (Fil.IsNames (f.take (i + 1)) out) := by
                show Fil.IsNames _ _
                rw [List.take_succ_eq_append_getElem hi', HX.out]
                exact names_same HRS.out (by show p ∈ out; rw [← HP.out]; exact List.getElem_mem hkm')
              go_wp2_with fail
              go_roundg (n - (i + 1))
              case measure => omega
              case rel => exact ⟨i + 1, out, _, m, d, by omega, Nat.le_refl _, by go_num, rfl, by omega, hmd, HR9, HM, O, BB⟩
            · have hne : (p == xn) = false := by simpa using heq
              have HNE := Lib.hid heq
              clear heq
              go_wp2_with fail
              (refine qb_region mixedT (by kernel_rfl) ?_; (repeat (refine hq_step (fun K hK => ?_); go_simp; first | (refine hK _ ?_; clear hK K) | (apply Exists.intro; refine ⟨fun _ => ?_, hK _ ?_⟩; (fail); clear hK K))); refine hq_nil ?_; intro _ hw'; obtain ⟨⟨nq, osq⟩, hw''⟩ := hw'; subst hw'')
              have hb := below_gx w1 nq osq
              generalize gx w1 nq osq = w2 at *
              replace O := Lib.hid (OwnZ.below O.out hb)
              replace BB := Lib.hid (below_next BB.out (Nat.le_refl _) hb)
              clear hb z0 f0 b1 hkk hne
              have HR9 : Hid (Fil.IsNames (f.take (i + 1)) (out.take k ++ xn :: out.drop k)) := by
                show Fil.IsNames _ _
                rw [List.take_succ_eq_append_getElem hi', HX.out]
                refine names_put HRS.out (by rw [HM.out]; omega) HL.out (fun hj => ?_)
                show Go.Op.bytesLess xn out[k] = true
                rw [HP.out]
                rcases less_or p xn with h | h | h
                · exact absurd ((cmpT_neg_iff p xn).2 h) (by have h1 := HZ0.out; rw [HZ.out]; omega)
                · exact absurd h HNE.out
                · exact h
              have hro := rdz_own O.out
              have hdw := O.out
              obtain ⟨Bc, hcut, hRc⟩ := run_cutTx (k := k) hro HM.out (by omega) hmd
              have hhead := run_headTx (some ⟨gb, ob, none⟩) m d k (by omega) hmd
              have hRh : RdTx w2 (some ⟨gb, ob, none⟩) (out.take k) := RdZ.take hro k
              have hb0 : Below w2.heap.size w2 (w2.alloc (.cells #[] 9)) := (gr1 w2 _).below
              have hO0 : OwnTx (w2.alloc (.cells #[] 9)) w2.heap.size (.slice (some ⟨w2.heap.size, 0, none⟩) 0 0) [] := OwnZ.empty w2 w2.heap.size (Nat.le_refl _)
              have hR0 := RdZ.below hRh hb0
              have hs0 : w2.heap.size ≤ (w2.alloc (.cells #[] 9)).heap.size := hb0.size
              have hlk : (out.take k).length = k := by rw [List.length_take, HM.out]; omega
              have hld : (out.drop k).length = m - k := by have h1 := HM.out; rw [List.length_drop]; omega
              have hl9 : (out.take k ++ xn :: out.drop k).length = m + 1 := by have h1 := hlk; have h2 := hld; rw [List.length_append, List.length_cons]; omega
              have HL9 := Lib.hid hl9
              have q0 := (BB.out.cell (p := ⟨g, off + i * 5, none⟩) HG0.out).trans HC.out
              have hg3 : g < w2.heap.size := Nat.lt_of_lt_of_le HG0.out BB.out.size
              go_wp2_with (first
                | (at_builtin; refine wpList_append_z layT (by rfl) (.tmp 48) (.tmp 51) 67 underT rfl w2.heap.size _ [] (by rfl) hO0 (some ⟨gb, ob, none⟩) (out.take k) k d (by rfl) hR0 hlk (by rw [maxLen_num]; simp only [List.length_nil]; omega) (by simp only [layT, List.length_nil]; omega) hs0 ?_; intro v1 x1 o1 b1 g1 l1; rw [List.nil_append] at o1; have hB1 := b1 w2 hb0; have d0 := (hB1.cell (p := ⟨g, off + i * 5, none⟩) hg3).trans q0; have hrx := rdz_one layT x1 xn 9 #[.string ⟨xn.toArray⟩] rfl; have hbx : Below x1.heap.size x1 (x1.alloc (.cells #[.string ⟨xn.toArray⟩] 9)) := (gr1 x1 _).below; have oo1 := OwnZ.below o1 hbx; have hBx := below_next hB1 (Nat.le_refl _) hbx; have hs1 : w2.heap.size ≤ (x1.alloc (.cells #[.string ⟨xn.toArray⟩] 9)).heap.size := hBx.size; have hgx : g < x1.heap.size := Nat.lt_of_lt_of_le hg3 hB1.size; clear b1 g1 l1 hb0 hO0 hR0 hs0 hbx o1 hhead hRh)
                | (at_builtin; refine wpList_append_z layT (by rfl) (.tmp 53) (.tmp 59) 67 underT rfl w2.heap.size _ (out.take k) (by rfl) oo1 _ [xn] 1 1 (by rfl) hrx rfl (by rw [maxLen_num, hlk]; omega) (by simp only [layT]; rw [hlk]; omega) hs1 ?_; intro v2 x2 o2 b2 g2 l2; have hB2 := b2 w2 hBx; have hR2 := RdZ.below hRc hB2; have hs2 : w2.heap.size ≤ x2.heap.size := hB2.size; clear b2 g2 l2 oo1 hrx hs1 d0 hgx)
                | (at_builtin; refine wpList_append_z layT (by rfl) (.tmp 61) (.tmp 64) 67 underT rfl w2.heap.size _ (out.take k ++ [xn]) (by rfl) o2 Bc (out.drop k) (m - k) (d - k) (by rfl) hR2 hld (by rw [maxLen_num, List.length_append, hlk]; simp only [List.length_cons, List.length_nil]; omega) (by simp only [layT]; rw [List.length_append, hlk]; simp only [List.length_cons, List.length_nil]; omega) hs2 ?_; intro v3 x3 o3 b3 g3 l3; have hB9 := b3 w2 hB2; rw [List.append_assoc, List.singleton_append] at o3; obtain ⟨A9, c9, hv9, hc9, hr9⟩ := OwnZ.form o3 HL9.out; subst hv9; clear b3 g3 l3 o2 hR2 hs2))
              have HB9 := Lib.hid (below_next BB.out (Nat.le_refl _) hB9)
              have HO9 : Hid (OwnTx x3 w.heap.size (.slice A9 (m + 1) c9) (out.take k ++ xn :: out.drop k)) := OwnZ.less o3 BB.out.size
              clear hB9 o3 hr9 hro hdw hcut hRc hlk hld hl9 q0 hg3 hB1 hB2 hBx
              go_wp2_with fail
              go_roundg (n - (i + 1))
              case measure => omega
              case rel => exact ⟨i + 1, _, A9, m + 1, c9, by omega, Nat.le_refl _, by go_num, rfl, by omega, hc9, HR9, HL9, HO9, HB9⟩
    · have hin : i = n := by omega
      subst hin
      have hRS := HRS.out
      rw [List.take_of_length_le (by rw [HN.out]; exact Nat.le_refl _)] at hRS
      go_wp2_with fail
      go_ret
      exact ⟨out, B, m, d, rfl, hRS, HM.out, hmi, hmd, HO.out, HB.out⟩
end Go.Proofs.Ytckabmlilbkmbaa
namespace Go.Proofs.Ytckabmlilbkmbaa
open Go.RowKit Go.Sort Spans Op
def mayE (f : List Pr) : Int := if 24 < f.length then 4 else if Fil.AllRight f then 0 else 1
theorem pbd_bd {f : List Pr} (h : PBd f) : Bd f := fun p hp => (h p hp).2.2
theorem names_mem {f : List Pr} {L : List (List UInt8)} (h : Fil.IsNames f L) {k : Nat} (hk : k < L.length) : Fil.Asked f L[k] := (h.2 _).1 (List.getElem_mem hk)
theorem void_iff {f : List Pr} {S : List UInt8 → Sp} {L : List (List UInt8)} (hL : Fil.IsNames f L) : Fil.Void f S ↔ ∃ n ∈ L, (S n).kind = 0 := by
  constructor
  · rintro ⟨p, hp, h⟩; exact ⟨p.n, (hL.2 _).2 ⟨p, hp, rfl⟩, h⟩
  · rintro ⟨n, hn, h⟩
    obtain ⟨p, hp, rfl⟩ := (hL.2 _).1 hn
    exact ⟨p, hp, h⟩
set_option maxRecDepth 100000 in
set_option maxHeartbeats 4000000 in
theorem rmay_at (A : Option Addr) (f : List Pr) (n c : Nat) (hn : f.length = n) (hm : n ≤ 1000) (hl : PBd f) (w : World) (hr : RdQ w A f) (er : Int) (he : mayE f = er) :
    Calls Try.prog 34 #[.slice A n c] w fun e w' => e = .returned (.int .i64 er) ∧ Below w.heap.size w w' := by
  have HN := Lib.hid hn
  have HLL := Lib.hid hl
  have HR := Lib.hid hr
  have HE := Lib.hid he
  clear hn hl hr he
  by_cases h24 : 24 < n
  · have d1 : decide ((24 : Int) < (n : Int)) = true := decide_eq_true (by omega)
    have HX : Hid (er = 4) := by show _ = _; rw [← HE.out]; unfold mayE; rw [if_pos (by rw [HN.out]; exact h24)]
    clear h24
    go_enter Try.func34, Try.ntmps34
    go_wp2_with fail
    go_ret
    exact ⟨by rw [HX.out]; rfl, Below.refl _ _⟩
  · have d1 : decide ((24 : Int) < (n : Int)) = false := decide_eq_false (by omega)
    have HX : Hid (er = if Fil.AllRight f then 0 else 1) := by show _ = _; rw [← HE.out]; unfold mayE; rw [if_neg (by rw [HN.out]; exact h24)]
    clear h24
    go_enter Try.func34, Try.ntmps34
    go_wp2_with fail
    go_loopg [3] n (fun gg s3 wr => ∃ k : Nat, k ≤ n ∧ n - k ≤ gg ∧ s3 = .int .i64 (k : Int) ∧ Hid (Below w.heap.size w wr) ∧ Hid (∀ p ∈ f.take k, rightP p = true))
    case atStart => exact ⟨0, Nat.zero_le _, by omega, rfl, Below.refl _ _, fun p hp => by simp at hp⟩
    case round =>
      obtain ⟨k, hk, hgg, rfl, HB, HA⟩ := hrel
      by_cases hlt : k < n
      · have hk' : k < f.length := by rw [HN.out]; exact hlt
        have hpl := HLL.out _ (List.getElem_mem hk')
        have hpr := HLL.out.right (List.getElem_mem hk')
        obtain ⟨g, off, rfl, hg, c0, c1, c2, c3, c4⟩ := RdQ.at5 (RdK.below HR.out HB.out) hk'
        obtain ⟨x, hx⟩ : ∃ x, f[k] = x := ⟨_, rfl⟩
        have HX2 := Lib.hid hx
        rw [hx] at c0 c1 c2 c3 c4 hpl hpr
        clear hx
        obtain ⟨xn, xo, xk, xi, xt⟩ := x
        obtain ⟨hp1, hp2, hp3, hp4⟩ := hpl
        dsimp only at hp1 hp2 hp3 hp4 hpr c0 c1 c2 c3 c4
        have HPR := Lib.hid hpr
        clear hpr
        have w5 : (k : Int) < (n : Int) := by omega
        cases hq : Preds.right xn xo xk xi xt with
        | true =>
          have HQ := Lib.hid hq
          clear hq
          go_wp2_with fail
          refine (rpright_is xn xo xk xi xt _ (by omega) (by omega) true HQ.out).mono ?_
          rintro e w2 ⟨rfl, hb2⟩
          have HB2 := Lib.hid (below_next HB.out (Nat.le_refl _) hb2)
          clear hb2 c0 c1 c2 c3 c4
          have HA2 : Hid (∀ p ∈ f.take (k + 1), rightP p = true) := by
            show ∀ p ∈ _, _
            rw [List.take_succ_eq_append_getElem hk', HX2.out]
            intro p hp
            rcases List.mem_append.1 hp with hp | hp
            · exact HA.out p hp
            · simp at hp; subst hp; rw [HPR.out]; exact HQ.out
          go_wp2_with fail
          go_roundg (n - (k + 1))
          case measure => omega
          case rel => exact ⟨k + 1, by omega, Nat.le_refl _, by go_num, HB2, HA2⟩
        | false =>
          have HQ := Lib.hid hq
          clear hq
          go_wp2_with fail
          refine (rpright_is xn xo xk xi xt _ (by omega) (by omega) false HQ.out).mono ?_
          rintro e w2 ⟨rfl, hb2⟩
          have HB2 := Lib.hid (below_next HB.out (Nat.le_refl _) hb2)
          clear hb2 c0 c1 c2 c3 c4
          have HF : Hid (er = 1) := by
            show _ = _
            rw [HX.out, if_neg]
            intro h
            have := h _ (List.getElem_mem hk')
            rw [HX2.out, HPR.out, HQ.out] at this
            cases this
          go_wp2_with fail
          go_ret
          exact ⟨by rw [HF.out]; rfl, HB2.out⟩
      · have hkn : k = n := by omega
        have HF : Hid (er = 0) := by
          show _ = _
          rw [HX.out, if_pos]
          have := HA.out
          rw [hkn, List.take_of_length_le (by rw [HN.out]; exact Nat.le_refl _)] at this
          exact this
        clear hkn
        go_wp2_with fail
        go_ret
        exact ⟨by rw [HF.out]; rfl, HB.out⟩
set_option maxRecDepth 100000 in
set_option maxHeartbeats 4000000 in
theorem rvoid_at (A : Option Addr) (f : List Pr) (n c : Nat) (hn : f.length = n) (hm : n ≤ 100) (hl : PBd f) (w : World) (hr : RdQ w A f) (S : List UInt8 → Sp) (hS : Fil.IsSpans f S) (q : Bool) (hq : decide (Fil.Void f S) = q) :
    Calls Try.prog 35 #[.slice A n c] w fun e w' => e = .returned (.bool q) ∧ Below w.heap.size w w' := by
  have HN := Lib.hid hn
  have HLL := Lib.hid hl
  have HR := Lib.hid hr
  have HS := Lib.hid hS
  have HQ := Lib.hid hq
  clear hn hl hr hS hq
  go_enter Try.func35, Try.ntmps35
  go_wp2_with fail
  refine (rnames_at A f n c HN.out (by omega) (fun p hp => by have := (HLL.out p hp).1; omega) w HR.out).mono ?_
  rintro e w1 ⟨L, B, m, d, rfl, hL, hlm, hmn, hmd, hoL, hb1⟩
  have HL := Lib.hid hL
  have HM := Lib.hid hlm
  have RL := Lib.hid (rdz_own hoL)
  have B1 := Lib.hid hb1
  clear hL hlm hoL hb1
  go_wp2_with fail
  go_loopg [4] m (fun gg s4 wr => ∃ k : Nat, k ≤ m ∧ m - k ≤ gg ∧ s4 = .int .i64 (k : Int) ∧ Hid (Below w1.heap.size w1 wr) ∧ Hid (∀ j (hj : j < L.length), j < k → (S L[j]).kind ≠ 0))
  case atStart => exact ⟨0, Nat.zero_le _, by omega, rfl, Below.refl _ _, fun j hj h => absurd h (by omega)⟩
  case round =>
    obtain ⟨k, hk, hgg, rfl, HB, HA⟩ := hrel
    have BB := Lib.hid (below_next B1.out (Nat.le_refl _) HB.out)
    by_cases hlt : k < m
    · have hk' : k < L.length := by rw [HM.out]; exact hlt
      obtain ⟨gb, ob, hB, hgb, b0⟩ := RdTx.at1 (RdZ.below RL.out HB.out) hk'
      subst hB
      obtain ⟨nm, hnm⟩ : ∃ x, L[k] = x := ⟨_, rfl⟩
      have HNM := Lib.hid hnm
      rw [hnm] at b0
      clear hnm
      have w5 : (k : Int) < (m : Int) := by omega
      go_wp2_with fail
      refine (rspanOf_at A f n c nm HN.out hm HLL.out _ (RdK.below HR.out BB.out)).mono ?_
      rintro e w2 ⟨⟨rK, rlo, rhi, rf, rt, ro, rno⟩, hall, hrl, A7, n7, c7, rfl, _, _, _, hb2⟩
      have HSK : Hid ((S nm).kind = rK) := by show _ = _; rw [(HS.out nm (HNM.out ▸ names_mem HL.out hk')).one hall]
      have HB2 := Lib.hid (below_next HB.out (Nat.le_refl _) hb2)
      clear hall hrl hb2 b0
      have HB3 := Lib.hid (HB2.out.trans ((gr1 w2 (.cells #[.int .i64 rK, .int .i64 rlo, .int .i64 rhi, .string ⟨rf.toArray⟩, .string ⟨rt.toArray⟩, .bool ro, .slice A7 n7 c7] 58)).below.mono HB2.out.size))
      by_cases hz : rK = 0
      · subst hz
        have HV : Hid (Fil.Void f S) := (void_iff HL.out).2 ⟨nm, HNM.out ▸ List.getElem_mem hk', HSK.out⟩
        obtain rfl : q = true := by rw [← HQ.out]; exact decide_eq_true HV.out
        go_wp2_with fail
        go_ret
        exact ⟨rfl, below_next B1.out (Nat.le_refl _) HB3.out⟩
      · have v0 : (rK == 0) = false := beq_eq_false_iff_ne.2 hz
        have HA2 : Hid (∀ j (hj : j < L.length), j < k + 1 → (S L[j]).kind ≠ 0) := fun j hj h => by
          rcases Nat.lt_or_ge j k with e | e
          · exact HA.out j hj e
          · obtain rfl : j = k := by omega
            rw [HNM.out, HSK.out]; exact hz
        clear hz
        go_wp2_with fail
        go_roundg (m - (k + 1))
        case measure => omega
        case rel => exact ⟨k + 1, by omega, Nat.le_refl _, by go_num, HB3, HA2⟩
    · have hkm : k = m := by omega
      have HV : Hid (¬ Fil.Void f S) := fun h => by
        obtain ⟨x, hx, h0⟩ := (void_iff HL.out).1 h
        obtain ⟨j, hj, rfl⟩ := List.getElem_of_mem hx
        exact HA.out j hj (by rw [HM.out] at hj; omega) h0
      obtain rfl : q = false := by rw [← HQ.out]; exact decide_eq_false HV.out
      clear hkm
      go_wp2_with fail
      go_ret
      exact ⟨rfl, BB.out⟩
end Go.Proofs.Ytckabmlilbkmbaa
