/- Contracts of the program and of the document (RIx), each used further on. -/
import Derived.Deep.LoopGhost
import Derived.WalkMore
import Derived.Test.YtnfigjggjmncdaaP4
import Derived.Test.YtnfigjggjmncdaaI1
import Derived.Test.YtnfigjggjmncdaaI3
namespace Go.Proofs.Ytnfigjggjmncdaa
open Go.RowKit Go.Maps Go.WideMaps Go.Sort Spans Tb Op
set_option maxRecDepth 100000 in
set_option maxHeartbeats 4000000 in
theorem rimeet_at (A : Option Addr) (es : List Ex) (n c : Nat) (hn : es.length = n) (hm : n ≤ 1000) (hf : ∀ x ∈ es, x.n ≤ 1000 ∧ PBd x.f) (B : Option Addr) (ev : List Ev.At) (m d : Nat) (hes : ev.length = m) (hml : m ≤ maxLen) (hbd : ∀ a ∈ ev, a.n.length ≤ maxLen ∧ a.t.length ≤ maxLen) (w : World) (hr : RdEn w A es) (hre : RdA w B ev) :
    Calls Try.prog 17 #[.slice A n c, .slice B m d] w (GivesX w (metIds es ev)) := by
  have HN := Lib.hid hn
  have HF := Lib.hid hf
  have HR := Lib.hid hr
  have HE := Lib.hid hes
  have HM := Lib.hid hml
  have HBD := Lib.hid hbd
  have HRE := Lib.hid hre
  have HO0 := Lib.hid (OwnZ.none_ (L := layI) w w.heap.size)
  clear hn hf hr hes hml hbd hre
  go_enter Try.func17, Try.ntmps17
  go_wp2_with fail
  go_loopg [5, 6] n (fun gg s5 s6 wr => ∃ (k m6 d6 : Nat) (B6 : Option Addr), k ≤ n ∧ n - k ≤ gg ∧ s6 = .int .i64 (k : Int) ∧ s5 = .slice B6 m6 d6 ∧ m6 ≤ d6 ∧ m6 ≤ k ∧ Hid ((metIds (es.take k) ev).length = m6) ∧ Hid (OwnZ layI wr w.heap.size (.slice B6 m6 d6) (metIds (es.take k) ev)) ∧ Hid (Below w.heap.size w wr))
  case atStart => exact ⟨0, 0, 0, _, Nat.zero_le _, by omega, rfl, rfl, Nat.le_refl _, Nat.le_refl _, rfl, HO0, Below.refl _ _⟩
  case round =>
    clear HO0
    obtain ⟨k, m6, d6, B6, hk, hgg, rfl, rfl, hmd, hmk, HL, HO, HB⟩ := hrel
    by_cases hlt : k < n
    · have hk' : k < es.length := by rw [HN.out]; exact hlt
      obtain ⟨g, off, rfl, hg, c0, c1, c2, hf⟩ := RdEn.at3 (HR.out.below HB.out) hk'
      have hsx := HF.out _ (List.getElem_mem hk')
      obtain ⟨x, hx⟩ : ∃ x, es[k] = x := ⟨_, rfl⟩
      have HX := Lib.hid hx
      rw [hx] at c0 c1 c2 hf hsx
      clear hx
      obtain ⟨xi, xr, xA, xn, xc, xf⟩ := x
      obtain ⟨hf1, hf2, hf3⟩ := hf
      dsimp only at c0 c1 c2 hsx hf1 hf2 hf3
      have w5 : (k : Int) < (n : Int) := by omega
      have HF1 := Lib.hid hf1
      have HF2 := Lib.hid hsx
      have HF3 := Lib.hid hf3
      clear hf1 hf2 hf3 hsx
      obtain ⟨y, hy⟩ : ∃ y, Fil.meets xf ev = y := ⟨_, rfl⟩
      have HY := Lib.hid hy
      clear hy
      go_wp2_with fail
      refine (rfmeets_at xA xf xn xc HF1.out HF2.out.1 HF2.out.2 B ev m d HE.out HM.out HBD.out _ HF3.out (HRE.out.below HB.out) y HY.out).mono ?_
      rintro e w2 ⟨rfl, hb2⟩
      have HB2 := Lib.hid (below_next HB.out (Nat.le_refl _) hb2)
      have HO2 := Lib.hid (OwnZ.below HO.out hb2)
      clear c0 c1 c2 hg hb2 HB HO HF3
      cases y with
      | true =>
        obtain ⟨g', off', e0, hg, c0, c1, c2, _⟩ := RdEn.at3 (HR.out.below HB2.out) hk'
        injection e0 with e0
        injection e0 with e1 e2
        subst e1
        subst e2
        rw [HX.out] at c0 c1 c2
        dsimp only at c0 c1 c2
        have HT : Hid (metIds (es.take (k + 1)) ev = metIds (es.take k) ev ++ [xi]) := met_yes hk' HX.out HY.out
        have hbx : Below w2.heap.size w2 (w2.alloc (.cells #[.int .i64 xi] 3)) := (gr1 w2 _).below
        have hrx := rdz_one layI w2 xi 3 #[.int .i64 xi] rfl
        have ho3 := OwnZ.below HO2.out hbx
        have hb3 := below_next HB2.out (Nat.le_refl _) hbx
        have hs3 := hb3.size
        have hlm := HL.out
        go_wp2_with (at_builtin; refine wpList_append_z layI (by rfl) (.tmp 20) (.tmp 26) 32 underI rfl w.heap.size _ (metIds (es.take k) ev) (by rfl) ho3 _ [xi] 1 1 (by rfl) hrx rfl (by rw [maxLen_num, hlm]; omega) (by simp only [layI]; rw [hlm]; omega) hs3 ?_; intro v2 y2 o2 b2 _ _; rw [← HT.out] at o2; have hl2 : (metIds (es.take (k + 1)) ev).length = m6 + 1 := (by rw [HT.out, List.length_append, hlm]; rfl); obtain ⟨B2, d2, hv2, hd2, _⟩ := OwnZ.form o2 hl2; subst hv2; have HB4 := Lib.hid (b2 w hb3); have HO4 := Lib.hid o2; have HM4 := Lib.hid hl2; clear b2 o2 hl2 hb3 ho3 hrx hbx hs3 hlm c0 c1 c2)
        go_roundg (n - (k + 1))
        case measure => omega
        case rel => exact ⟨k + 1, m6 + 1, d2, B2, by omega, Nat.le_refl _, by go_num, rfl, hd2, by omega, HM4, HO4, HB4⟩
      | false =>
        have HT : Hid (metIds (es.take (k + 1)) ev = metIds (es.take k) ev) := met_no hk' HX.out HY.out
        have HM4 : Hid ((metIds (es.take (k + 1)) ev).length = m6) := (by show _ = _; rw [HT.out]; exact HL.out)
        have HO4 : Hid (OwnZ layI w2 w.heap.size (.slice B6 m6 d6) (metIds (es.take (k + 1)) ev)) := (by show OwnZ _ _ _ _ _; rw [HT.out]; exact HO2.out)
        go_wp2_with fail
        go_roundg (n - (k + 1))
        case measure => omega
        case rel => exact ⟨k + 1, m6, d6, B6, by omega, Nat.le_refl _, by go_num, rfl, hmd, by omega, HM4, HO4, HB2⟩
    · obtain rfl : k = n := by omega
      go_wp2_with fail
      go_ret
      have hl := HL.out
      have ho := HO.out
      rw [List.take_of_length_le (by rw [HN.out]; exact Nat.le_refl _)] at hl ho
      exact ⟨B6, m6, d6, rfl, hl, hmd, ho, HB.out⟩
/-- The predicates ahead of predicate j of entry k. -/
def ppx (F : List (List Pr)) (k j : Nat) : List Pr := (F.take k).flatten ++ (F[k]?.getD []).take j
theorem mem_snoc_no {l : List Pr} {p q : Pr} (h : p ∉ l) : decide (p ∈ l ++ [q]) = decide (q = p) := by
  rw [decide_eq_decide, List.mem_append]
  constructor
  · rintro (k | k)
    · exact absurd k h
    · simp at k; exact k.symm
  · rintro rfl
    simp
theorem ppx_zero (F : List (List Pr)) (k : Nat) : ppx F k 0 = (F.take k).flatten := by simp [ppx]
theorem ppx_step {F : List (List Pr)} {k j : Nat} {f : List Pr} (hf : F[k]? = some f) (hj : j < f.length) : ppx F k (j + 1) = ppx F k j ++ [f[j]] := by
  unfold ppx
  rw [hf, Option.getD_some, List.take_succ_eq_append_getElem hj, List.append_assoc]
theorem ppx_row {F : List (List Pr)} {k : Nat} {f : List Pr} (hf : F[k]? = some f) : ppx F k f.length = (F.take (k + 1)).flatten := by
  have hk := (List.getElem?_eq_some_iff.1 hf).1
  unfold ppx
  rw [hf, Option.getD_some, List.take_of_length_le (Nat.le_refl _), List.take_succ_eq_append_getElem hk, List.flatten_append]
  rw [List.getElem?_eq_getElem hk] at hf
  injection hf with hf
  simp [hf]
theorem ppx_len {F : List (List Pr)} {k j : Nat} (hk : k ≤ F.length) : (ppx F k j).length ≤ F.flatten.length := by
  have h := Ix.upTo_len (F := F) (k := k) (j := j) hk
  have e : (Ix.upTo F k j).length = (ppx F k j).length := by
    unfold Ix.upTo ppx
    rw [List.length_append, List.length_append, Ix.prs_len, List.length_map]
  rwa [e] at h
set_option maxRecDepth 100000 in
set_option maxHeartbeats 4000000 in
theorem risize_at (A : Option Addr) (es : List Ex) (n c : Nat) (hn : es.length = n) (hm : n ≤ 1000) (hf : ∀ x ∈ es, x.n ≤ 1000) (w : World) (hr : RdEn w A es) (q : Nat) (hq : (Ix.uq (fls es).flatten).length = q) :
    Calls Try.prog 12 #[.slice A n c] w fun e w' => e = .returned (.int .i64 (q : Int)) ∧ Below w.heap.size w w' := by
  have HN := Lib.hid hn
  have HF := Lib.hid hf
  have HR := Lib.hid hr
  have HQ := Lib.hid hq
  have HFL : Hid ((fls es).flatten.length ≤ 1000000) := (by have := fls_all (es := es) (R := 1000) (fun x hx => (by have h1 := hf x hx; have h2 := (hr.2 x hx).1; omega)); show _ ≤ _; rw [hn] at this; omega)
  have HO0 := Lib.hid (OwnK.none_ (L := layP) w w.heap.size)
  clear hn hf hr hq
  go_enter Try.func12, Try.ntmps12
  go_wp2_with fail
  go_loopg [3, 4] n (fun gg s3 s4 wr => ∃ (k u d : Nat) (B : Option Addr), k ≤ n ∧ n - k ≤ gg ∧ s4 = .int .i64 (k : Int) ∧ s3 = .slice B u d ∧ u ≤ d ∧ Hid ((Ix.uq ((fls es).take k).flatten).length = u) ∧ Hid (OwnQ wr w.heap.size (.slice B u d) (Ix.uq ((fls es).take k).flatten)) ∧ Hid (Below w.heap.size w wr))
  case atStart => exact ⟨0, 0, 0, _, Nat.zero_le _, by omega, rfl, rfl, Nat.le_refl _, rfl, HO0, Below.refl _ _⟩
  case round =>
    clear HO0
    obtain ⟨k, u, d, B, hk, hgg, rfl, rfl, hud, HL, HO, HB⟩ := hrel
    by_cases hlt : k < n
    · have hk' : k < es.length := by rw [HN.out]; exact hlt
      have hfl := (HR.out.2 _ (List.getElem_mem hk')).1
      have hfn := HF.out _ (List.getElem_mem hk')
      have HFK : Hid ((fls es)[k]? = some es[k].f) := fls_at hk'
      have w5 : (k : Int) < (n : Int) := by omega
      have HFR := HR.out.2 _ (List.getElem_mem hk')
      obtain ⟨x, hx⟩ : ∃ x, es[k] = x := ⟨_, rfl⟩
      have HX := Lib.hid hx
      rw [hx] at hfl hfn HFK HFR
      clear hx
      obtain ⟨xi, xr, xA, xn, xc, xf⟩ := x
      dsimp only at hfl hfn HFK HFR
      have HXL := Lib.hid hfl
      replace HFR := Lib.hid HFR.2.2
      dsimp only at HFR
      clear hfl
      go_wp2_with fail
      go_loopg [3, 5] xn (fun g2 s3 s5 wr => ∃ (j u d : Nat) (B : Option Addr), j ≤ xn ∧ xn - j ≤ g2 ∧ s5 = .int .i64 (j : Int) ∧ s3 = .slice B u d ∧ u ≤ d ∧ Hid ((Ix.uq (ppx (fls es) k j)).length = u) ∧ Hid (OwnQ wr w.heap.size (.slice B u d) (Ix.uq (ppx (fls es) k j))) ∧ Hid (Below w.heap.size w wr))
      case atStart => exact ⟨0, u, d, B, Nat.zero_le _, by omega, rfl, rfl, hud, by show _ = _; rw [ppx_zero]; exact HL.out, by show OwnK _ _ _ _ _; rw [ppx_zero]; exact HO.out, HB⟩
      case round =>
        clear HL HO HB hud
        obtain ⟨j, u, d, B, hj, hgj, rfl, rfl, hud, HL, HO, HB⟩ := hrel
        obtain ⟨g, off, rfl, hg, c0, c1, c2, _⟩ := RdEn.at3 (HR.out.below HB.out) hk'
        rw [HX.out] at c0 c1 c2
        dsimp only at c0 c1 c2
        by_cases hlj : j < xn
        · have hj' : j < xf.length := by rw [HXL.out]; exact hlj
          obtain ⟨g1, off1, rfl, hg1, d0, d1, d2, d3, d4⟩ := RdQ.at5 (RdK.below HFR.out HB.out) hj'
          have HUP : Hid (ppx (fls es) k (j + 1) = ppx (fls es) k j ++ [xf[j]]) := ppx_step HFK.out hj'
          obtain ⟨y, hy⟩ : ∃ y, xf[j] = y := ⟨_, rfl⟩
          rw [hy] at d0 d1 d2 d3 d4 HUP
          clear hy
          obtain ⟨yn, yo, yk, yi, yt⟩ := y
          dsimp only at d0 d1 d2 d3 d4
          have w6 : (j : Int) < (xn : Int) := by omega
          have hbP : Below wr.heap.size wr (wr.alloc (.cells #[.string ⟨yn.toArray⟩, .int .i64 yo, .int .i64 yk, .int .i64 yi, .string ⟨yt.toArray⟩] 47)) := (gr1 wr (.cells #[.string ⟨yn.toArray⟩, .int .i64 yo, .int .i64 yk, .int .i64 yi, .string ⟨yt.toArray⟩] 47)).below
          have BP := Lib.hid (Blk.new wr 47 #[.string ⟨yn.toArray⟩, .int .i64 yo, .int .i64 yk, .int .i64 yi, .string ⟨yt.toArray⟩])
          have HO1 := Lib.hid (OwnK.below HO.out hbP)
          have HB1 := Lib.hid (below_next HB.out (Nat.le_refl _) hbP)
          clear hbP HO HB
          have hub : u ≤ 1000000 := (by rw [← HL.out]; have h1 := Ix.uq_len (ppx (fls es) k j); have h2 := ppx_len (F := fls es) (k := k) (j := j) (by rw [fls_len, HN.out]; omega); have := HFL.out; omega)
          go_wp2_with fail
          clear c0 c1 c2 hg d0 d1 d2 d3 d4 hg1
          generalize wr.alloc (.cells #[.string ⟨yn.toArray⟩, .int .i64 yo, .int .i64 yk, .int .i64 yi, .string ⟨yt.toArray⟩] 47) = wo at *
          generalize wr.heap.size = pp at *
          go_loopg [7, 8] u (fun g3 s7 s8 wr => ∃ z : Nat, z + g3 = u ∧ s8 = .int .i64 (z : Int) ∧ s7 = .bool (decide (⟨yn, yo, yk, yi, yt⟩ ∈ (Ix.uq (ppx (fls es) k j)).take z)) ∧ Hid (Below wo.heap.size wo wr))
          case atStart => exact ⟨0, by omega, rfl, by simp, Below.refl _ _⟩
          case round =>
            obtain ⟨z, hzg, rfl, rfl, HG⟩ := hrel
            cases gk with
            | succ gk =>
              have hz : z < (Ix.uq (ppx (fls es) k j)).length := by rw [HL.out]; omega
              obtain ⟨_, _, e5, _, hrd⟩ := OwnK.rd (OwnK.below HO1.out HG.out)
              injection e5 with e5 e6 e7
              rw [← e5] at hrd
              clear e5 e6 e7
              obtain ⟨g2, off2, rfl, hg2, d0, d1, d2, d3, d4⟩ := RdQ.at5 hrd hz
              have HT : Hid ((Ix.uq (ppx (fls es) k j)).take (z + 1) = (Ix.uq (ppx (fls es) k j)).take z ++ [(Ix.uq (ppx (fls es) k j))[z]]) := List.take_succ_eq_append_getElem hz
              obtain ⟨v, hv⟩ : ∃ v, (Ix.uq (ppx (fls es) k j))[z] = v := ⟨_, rfl⟩
              rw [hv] at d0 d1 d2 d3 d4 HT
              clear hv
              obtain ⟨zn, zo, zk, zi, zt⟩ := v
              dsimp only at d0 d1 d2 d3 d4
              have BP2 := Lib.hid (Blk.below BP.out HG.out BP.out.lt)
              have w7 : (z : Int) < (u : Int) := by omega
              cases hq7 : decide (⟨yn, yo, yk, yi, yt⟩ ∈ (Ix.uq (ppx (fls es) k j)).take z) with
              | true =>
                have HQ7 : Hid (decide (⟨yn, yo, yk, yi, yt⟩ ∈ (Ix.uq (ppx (fls es) k j)).take (z + 1)) = true) := (by show _ = _; have := of_decide_eq_true hq7; rw [HT.out]; exact decide_eq_true (List.mem_append_left _ this))
                clear hq7 d0 d1 d2 d3 d4 hrd
                go_wp2_with fail
                refine wp_region_held_drew (S := fun _ => True) (by kernel_rfl) trivial (fun _ => ?_)
                refine Jz 0 trivial ?_
                refine Jz 1 trivial ?_
                refine Jw 2 trivial ?_
                refine Jw 3 trivial ?_
                refine Jw 4 trivial ?_
                refine Jw 5 trivial ?_
                refine Jw 6 trivial ?_
                refine Jw 7 trivial ?_
                refine Jz 8 trivial ?_
                refine Jz 9 trivial ?_
                refine Jd ?_
                have HGd := Lib.hid HG.out.drew
                generalize wr.drew = wA at *
                go_wp2_with fail
                go_roundg gk
                case measure => omega
                case rel => exact ⟨z + 1, by omega, by go_num, by rw [HQ7.out], HGd⟩
              | false =>
                have HQ7 : Hid (decide (⟨yn, yo, yk, yi, yt⟩ ∈ (Ix.uq (ppx (fls es) k j)).take (z + 1)) = decide ((⟨zn, zo, zk, zi, zt⟩ : Pr) = ⟨yn, yo, yk, yi, yt⟩)) := (by show _ = _; rw [HT.out]; exact mem_snoc_no (of_decide_eq_false hq7))
                clear hq7 hrd
                go_wp2_with fail
                have hS0 : wr.drew.cell? ⟨g2, off2 + z * 5, none⟩ = some (.string ⟨zn.toArray⟩) ∧ wr.drew.cell? ⟨g2, off2 + z * 5 + 1, none⟩ = some (.int .i64 zo) ∧ wr.drew.cell? ⟨g2, off2 + z * 5 + 2, none⟩ = some (.int .i64 zk) ∧ wr.drew.cell? ⟨g2, off2 + z * 5 + 3, none⟩ = some (.int .i64 zi) ∧ wr.drew.cell? ⟨g2, off2 + z * 5 + 4, none⟩ = some (.string ⟨zt.toArray⟩) ∧ Blk wr.drew pp 47 #[.string ⟨yn.toArray⟩, .int .i64 yo, .int .i64 yk, .int .i64 yi, .string ⟨yt.toArray⟩] := ⟨d0, d1, d2, d3, d4, BP2.out⟩
                clear d0 d1 d2 d3 d4
                refine wp_region_held_drew (S := fun w' => w'.cell? ⟨g2, off2 + z * 5, none⟩ = some (.string ⟨zn.toArray⟩) ∧ w'.cell? ⟨g2, off2 + z * 5 + 1, none⟩ = some (.int .i64 zo) ∧ w'.cell? ⟨g2, off2 + z * 5 + 2, none⟩ = some (.int .i64 zk) ∧ w'.cell? ⟨g2, off2 + z * 5 + 3, none⟩ = some (.int .i64 zi) ∧ w'.cell? ⟨g2, off2 + z * 5 + 4, none⟩ = some (.string ⟨zt.toArray⟩) ∧ Blk w' pp 47 #[.string ⟨yn.toArray⟩, .int .i64 yo, .int .i64 yk, .int .i64 yi, .string ⟨yt.toArray⟩]) (by kernel_rfl) hS0 (fun _ => ?_)
                refine Jz 0 hS0 ?_ (hv := by intro w' hSw; obtain ⟨r0, r1, r2, r3, r4, hb5⟩ := hSw; obtain ⟨q0, q1, q2, q3, q4, _⟩ := blk5 hb5; go_simp <;> with_reducible rfl)
                refine Jz 1 hS0 ?_ (hv := by intro w' hSw; obtain ⟨r0, r1, r2, r3, r4, hb5⟩ := hSw; obtain ⟨q0, q1, q2, q3, q4, _⟩ := blk5 hb5; go_simp <;> with_reducible rfl)
                refine Jz 2 hS0 ?_ (hv := by intro w' hSw; obtain ⟨r0, r1, r2, r3, r4, hb5⟩ := hSw; obtain ⟨q0, q1, q2, q3, q4, _⟩ := blk5 hb5; go_simp <;> with_reducible rfl)
                refine Jz 3 hS0 ?_ (hv := by intro w' hSw; obtain ⟨r0, r1, r2, r3, r4, hb5⟩ := hSw; obtain ⟨q0, q1, q2, q3, q4, _⟩ := blk5 hb5; go_simp <;> with_reducible rfl)
                refine Jz 4 hS0 ?_ (hv := by intro w' hSw; obtain ⟨r0, r1, r2, r3, r4, hb5⟩ := hSw; obtain ⟨q0, q1, q2, q3, q4, _⟩ := blk5 hb5; go_simp <;> with_reducible rfl)
                refine Jz 5 hS0 ?_ (hv := by intro w' hSw; obtain ⟨r0, r1, r2, r3, r4, hb5⟩ := hSw; obtain ⟨q0, q1, q2, q3, q4, _⟩ := blk5 hb5; go_simp <;> with_reducible rfl)
                refine Jz 6 hS0 ?_ (hv := by intro w' hSw; obtain ⟨r0, r1, r2, r3, r4, hb5⟩ := hSw; obtain ⟨q0, q1, q2, q3, q4, _⟩ := blk5 hb5; go_simp <;> with_reducible rfl)
                refine Jz 7 (v := .bool (decide ((⟨zn, zo, zk, zi, zt⟩ : Pr) = ⟨yn, yo, yk, yi, yt⟩))) hS0 ?_ (hv := by intro w' hSw; clear hSw hS0; go_simp; by_cases h1 : zn = yn <;> by_cases h2 : zo = yo <;> by_cases h3 : zk = yk <;> by_cases h4 : zi = yi <;> by_cases h5 : zt = yt <;> simp [h1, h2, h3, h4, h5])
                refine Jz 8 hS0 ?_
                refine Jz 9 hS0 ?_
                refine Jd ?_
                clear hS0
                rw [← HQ7.out]
                have HGd := Lib.hid HG.out.drew
                generalize wr.drew = wA at *
                go_wp2_with fail
                go_roundg gk
                case measure => omega
                case rel => exact ⟨z + 1, by omega, by go_num, by rw [HQ7.out]; simp, HGd⟩
            | zero =>
              obtain rfl : z = u := by omega
              have HT : Hid ((Ix.uq (ppx (fls es) k j)).take z = (Ix.uq (ppx (fls es) k j))) := List.take_of_length_le (by rw [HL.out]; exact Nat.le_refl _)
              have HO2 := Lib.hid (OwnK.below HO1.out HG.out)
              have HB2 := Lib.hid (below_next HB1.out (by have := HB1.out.size; omega) HG.out)
              have BP2 := Lib.hid (Blk.below BP.out HG.out BP.out.lt)
              clear HO1 HB1 BP HG
              rw [HT.out]
              cases hq7 : decide (⟨yn, yo, yk, yi, yt⟩ ∈ (Ix.uq (ppx (fls es) k j))) with
              | true =>
                have HN7 : Hid ((Ix.uq (ppx (fls es) k (j + 1))) = (Ix.uq (ppx (fls es) k j))) := (by show _ = _; rw [HUP.out, Ix.uq_snoc, if_pos (of_decide_eq_true hq7)])
                clear hq7
                have HL7 : Hid ((Ix.uq (ppx (fls es) k (j + 1))).length = z) := (by show _ = _; rw [HN7.out]; exact HL.out)
                have HO7 : Hid (OwnQ wr w.heap.size (.slice B z d) (Ix.uq (ppx (fls es) k (j + 1)))) := (by show OwnK _ _ _ _ _; rw [HN7.out]; exact HO2.out)
                clear BP2
                go_wp2_with fail
                go_roundg (xn - (j + 1))
                case measure => omega
                case rel => exact ⟨j + 1, z, d, B, by omega, Nat.le_refl _, by go_num, rfl, hud, HL7, HO7, HB2⟩
              | false =>
                have HN7 : Hid ((Ix.uq (ppx (fls es) k (j + 1))) = (Ix.uq (ppx (fls es) k j)) ++ [⟨yn, yo, yk, yi, yt⟩]) := (by show _ = _; rw [HUP.out, Ix.uq_snoc, if_neg (of_decide_eq_false hq7)])
                clear hq7
                obtain ⟨q0, q1, q2, q3, q4, _⟩ := blk5 BP2.out
                have hlq := BP2.out.lt
                have hbx : Below wr.heap.size wr (wr.alloc (.cells #[.string ⟨yn.toArray⟩, .int .i64 yo, .int .i64 yk, .int .i64 yi, .string ⟨yt.toArray⟩] 47)) := (gr1 wr _).below
                have hrx := rdk_one layP wr ⟨yn, yo, yk, yi, yt⟩ 47 #[.string ⟨yn.toArray⟩, .int .i64 yo, .int .i64 yk, .int .i64 yi, .string ⟨yt.toArray⟩] rfl
                have ho3 := OwnK.below HO2.out hbx
                have hb3 := below_next HB2.out (Nat.le_refl _) hbx
                have hs3 := hb3.size
                have hlm := HL.out
                go_wp2_with (at_builtin; refine wpList_append_k layP (by rfl) (.tmp 50) (.tmp 52) 38 underQ rfl w.heap.size _ (Ix.uq (ppx (fls es) k j)) (by rfl) ho3 _ [⟨yn, yo, yk, yi, yt⟩] 1 1 (by rfl) hrx rfl (by rw [maxLen_num, hlm]; omega) (by show (_ + 1) * 56 ≤ _; rw [hlm]; omega) hs3 ?_; intro v2 y2 o2 b2 _ _; rw [← HN7.out] at o2; have hl2 : (Ix.uq (ppx (fls es) k (j + 1))).length = z + 1 := (by rw [HN7.out, List.length_append, hlm]; rfl); obtain ⟨B2, d2, hv2, hd2, _⟩ := OwnK.form o2 hl2; subst hv2; have HB4 := Lib.hid (b2 w hb3); have HO4 := Lib.hid o2; have HM4 := Lib.hid hl2; clear b2 o2 hl2 hb3 ho3 hrx hbx hs3 hlm q0 q1 q2 q3 q4 hlq)
                go_roundg (xn - (j + 1))
                case measure => omega
                case rel => exact ⟨j + 1, z + 1, d2, B2, by omega, Nat.le_refl _, by go_num, rfl, hd2, HM4, HO4, HB4⟩
        · obtain rfl : j = xn := by omega
          have HR7 : Hid (ppx (fls es) k j = ((fls es).take (k + 1)).flatten) := (by show _ = _; rw [← HXL.out]; exact ppx_row HFK.out)
          have HL7 : Hid ((Ix.uq ((fls es).take (k + 1)).flatten).length = u) := (by show _ = _; rw [← HR7.out]; exact HL.out)
          have HO7 : Hid (OwnQ wr w.heap.size (.slice B u d) (Ix.uq ((fls es).take (k + 1)).flatten)) := (by show OwnK _ _ _ _ _; rw [← HR7.out]; exact HO.out)
          go_wp2_with fail
          go_roundg (n - (k + 1))
          case measure => omega
          case rel => exact ⟨k + 1, u, d, B, by omega, Nat.le_refl _, by go_num, rfl, hud, HL7, HO7, HB⟩
    · obtain rfl : k = n := by omega
      have HF7 : Hid ((u : Int) = (q : Int)) := (by show _ = _; rw [← HL.out, ← HQ.out, List.take_of_length_le (by rw [fls_len, HN.out]; exact Nat.le_refl _)])
      go_wp2_with fail
      go_ret
      exact ⟨by rw [HF7.out]; rfl, HB.out⟩
end Go.Proofs.Ytnfigjggjmncdaa
