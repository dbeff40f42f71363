/- Contracts of the program and of the document (IxBuild), each used further on. -/
import Derived.Deep.LoopGhost
import Derived.WalkMore
import Derived.Test.YtnfigjggjmncdaaI1
namespace Go.Proofs.Ytnfigjggjmncdaa
open Go.RowKit Go.Maps Go.WideMaps Go.Sort Spans Tb Op
set_option maxRecDepth 100000 in
set_option maxHeartbeats 8000000 in
theorem build_at (A : Option Addr) (es : List Ex) (n c : Nat) (hn : es.length = n) (hm : n ≤ 1000) (hf : XFew es) (w : World) (hr : RdEn w A es) :
    Calls Try.prog 10 #[.slice A n c] w fun e w' => ∃ g, e = .returned (.pointer (some ⟨g, 0, none⟩)) ∧ IsIx w' g es ∧ Below w.heap.size w w' := by
  have HN := Lib.hid hn
  have HF := Lib.hid hf
  have HR := Lib.hid hr
  have HFL : Hid ((fls es).flatten.length ≤ 1000000) := (by have := fls_all (es := es) (R := 1000) (fun x hx => (by have h1 := (hf x hx).1; have h2 := (hr.2 x hx).1; omega)); show _ ≤ _; rw [hn] at this; omega)
  have HFN : Hid ((fls es).length = n) := (by show _ = _; rw [fls_len, hn])
  obtain ⟨Z, hZ, hmk⟩ := make_need n (by omega)
  have HZ : Hid ((ndRow es).length = Z.length) := (by show _ = _; rw [nd_len, hn, hZ])
  have HRL : Hid ((ndRow es).length = n * 2) := (by show _ = _; rw [nd_len, hn])
  have hmm := @run_makeMap Try.prog
  have HB0 : Hid (Below w.heap.size w (((w.alloc (.cells Z.toArray 55)).alloc (.map #[] 0)).alloc (.cells #[.slice (some ⟨w.heap.size, 0, none⟩) n n, .map (some (w.heap.size + 1))] 53))) := (gr3 w _ _ _).below
  have HA0 := Lib.hid (((Blk.new w 55 Z.toArray).alloc (.map #[] 0)).alloc (.cells #[.slice (some ⟨w.heap.size, 0, none⟩) n n, .map (some (w.heap.size + 1))] 53))
  have HM0 := (World.ownsMap_made (w.alloc (.cells Z.toArray 55)) Try.prog 47 elemS).alloc (.cells #[.slice (some ⟨w.heap.size, 0, none⟩) n n, .map (some (w.heap.size + 1))] 53)
  have HX0 := Blk.new ((w.alloc (.cells Z.toArray 55)).alloc (.map #[] 0)) 53 #[.slice (some ⟨w.heap.size, 0, none⟩) n n, .map (some (w.heap.size + 1))]
  rw [show (w.alloc (.cells Z.toArray 55)).heap.size = w.heap.size + 1 by simp] at HM0
  rw [show ((w.alloc (.cells Z.toArray 55)).alloc (.map #[] 0)).heap.size = w.heap.size + 1 + 1 by simp] at HX0
  replace HM0 := Lib.hid HM0
  replace HX0 := Lib.hid HX0
  have hs0 : (((w.alloc (.cells Z.toArray 55)).alloc (.map #[] 0)).alloc (.cells #[.slice (some ⟨w.heap.size, 0, none⟩) n n, .map (some (w.heap.size + 1))] 53)).heap.size = w.heap.size + 1 + 1 + 1 := by simp
  replace hs0 := Lib.hid hs0
  have w0 : (0 : Int) ≤ (n : Int) := by omega
  clear hn hf hr hZ
  go_enter Try.func10, Try.ntmps10
  go_wp2_with fail
  clear hmm hmk
  generalize (((w.alloc (.cells Z.toArray 55)).alloc (.map #[] 0)).alloc (.cells #[.slice (some ⟨w.heap.size, 0, none⟩) n n, .map (some (w.heap.size + 1))] 53)) = wi at *
  go_loopg [16] n (fun gg s16 wr => ∃ (k : Nat) (D : DataW Sl) (S : Pr → Sl), k ≤ n ∧ n - k ≤ gg ∧ s16 = .int .i64 (k : Int) ∧ Hid (Blk wr w.heap.size 55 ((ndRow es).take (k * 2) ++ Z.drop (k * 2)).toArray) ∧ Hid (Blk wr (w.heap.size + 1 + 1) 53 #[.slice (some ⟨w.heap.size, 0, none⟩) n n, .map (some (w.heap.size + 1))]) ∧ Hid (OwnX wr (w.heap.size + 1) (Ix.upTo (fls es) k 0).length D) ∧ Hid (Gx wr (w.heap.size + 1 + 1 + 1) D (Ix.upTo (fls es) k 0) S) ∧ Hid (Below w.heap.size w wr) ∧ Hid ((w.heap.size + 1 + 1 + 1) ≤ wr.heap.size))
  case atStart =>
    refine ⟨0, .map [], fun _ => ⟨none, 0, 0⟩, Nat.zero_le _, by omega, rfl, ?_, HX0, ?_, ?_, HB0, ?_⟩
    · show Blk _ _ _ _; simpa using HA0.out
    · show OwnX _ _ _ _; rw [Ix.upTo_nil]; exact HM0.out
    · show Gx _ _ _ _ _; rw [Ix.upTo_nil]; exact Gx.nil _ _ _
    · show _ ≤ _; rw [hs0.out]; exact Nat.le_refl _
  case round =>
    obtain ⟨k, D, S, hk, hgg, rfl, HND, HBX, HMP, HGX, HB, HSZ⟩ := hrel
    clear HA0 HM0 HX0 HB0 hs0
    by_cases hlt : k < n
    · have hk' : k < es.length := by rw [HN.out]; exact hlt
      obtain ⟨g0, off, rfl, hg, c0, c1, c2, hf⟩ := RdEn.at3 (HR.out.below HB.out) hk'
      have hsx := HF.out _ (List.getElem_mem hk')
      have HRX := (HR.out.2 _ (List.getElem_mem hk')).2.2
      obtain ⟨x, hx⟩ : ∃ x, es[k] = x := ⟨_, rfl⟩
      have HX := Lib.hid hx
      have HFK : Hid ((fls es)[k]? = some es[k].f) := fls_at hk'
      have hnd := nd_at es k hk'
      rw [hx] at c0 c1 c2 hf hsx HFK hnd HRX
      clear hx
      obtain ⟨xi, xr, xA, xn, xc, xf⟩ := x
      obtain ⟨hf1, hf2, hf3⟩ := hf
      dsimp only at c0 c1 c2 hsx hf1 hf2 hf3 HFK hnd HRX
      have w5 : (k : Int) < (n : Int) := by omega
      have hbA : Below wr.heap.size wr (wr.alloc (.cells #[.int .i64 xi, .int .i64 xr, .slice xA xn xc] 40)) := (gr1 wr (.cells #[.int .i64 xi, .int .i64 xr, .slice xA xn xc] 40)).below
      have BE := Lib.hid (Blk.new wr 40 #[.int .i64 xi, .int .i64 xr, .slice xA xn xc])
      replace HND := Lib.hid (Blk.below HND.out hbA HND.out.lt)
      replace HBX := Lib.hid (Blk.below HBX.out hbA HBX.out.lt)
      replace HMP := Lib.hid (OwnX.below HMP.out hbA)
      replace HGX := Lib.hid (HGX.out.below hbA)
      replace HSZ : Hid (_ ≤ _) := Nat.le_trans HSZ.out hbA.size
      replace HB := Lib.hid (below_next HB.out (Nat.le_refl _) hbA)
      have HXL := Lib.hid hf1
      replace HRX := Lib.hid HRX
      have HXC := Lib.hid hsx.2
      have hxn := hsx.1
      have HNV := Lib.hid hnd
      have hpe : w.heap.size + 1 + 1 < wr.heap.size + 1 := (by have := HBX.out.lt; simpa using this)
      clear hbA hf1 hf2 hf3 hsx hnd
      go_wp2_with fail
      clear c0 c1 c2 hg
      generalize wr.alloc (.cells #[.int .i64 xi, .int .i64 xr, .slice xA xn xc] 40) = wo at *
      generalize wr.heap.size = pe at *
      have hS0 : Blk wo.drew (w.heap.size + 1 + 1) 53 #[.slice (some ⟨w.heap.size, 0, none⟩) n n, .map (some (w.heap.size + 1))] ∧ Blk wo.drew pe 40 #[.int .i64 xi, .int .i64 xr, .slice xA xn xc] := ⟨HBX.out, BE.out⟩
      refine wp_region_held_drew (S := fun w' => Blk w' (w.heap.size + 1 + 1) 53 #[.slice (some ⟨w.heap.size, 0, none⟩) n n, .map (some (w.heap.size + 1))] ∧ Blk w' pe 40 #[.int .i64 xi, .int .i64 xr, .slice xA xn xc]) (by kernel_rfl) hS0 (fun _ => ?_)
      refine Jz 0 hS0 ?_ (hv := by intro w' hSw; obtain ⟨r0, r1, _⟩ := blk2 hSw.1; obtain ⟨q0, q1, q2⟩ := cells3 hSw.2; go_simp <;> with_reducible rfl)
      refine Jz 1 hS0 ?_ (hv := by intro w' hSw; obtain ⟨r0, r1, _⟩ := blk2 hSw.1; obtain ⟨q0, q1, q2⟩ := cells3 hSw.2; go_simp <;> with_reducible rfl)
      refine Jz 2 hS0 ?_ (hv := by intro w' hSw; obtain ⟨r0, r1, _⟩ := blk2 hSw.1; obtain ⟨q0, q1, q2⟩ := cells3 hSw.2; go_simp <;> with_reducible rfl)
      refine Jz 3 hS0 ?_ (hv := by intro w' hSw; obtain ⟨r0, r1, _⟩ := blk2 hSw.1; obtain ⟨q0, q1, q2⟩ := cells3 hSw.2; go_simp <;> with_reducible rfl)
      refine Jz 4 hS0 ?_ (hv := by intro w' hSw; obtain ⟨r0, r1, _⟩ := blk2 hSw.1; obtain ⟨q0, q1, q2⟩ := cells3 hSw.2; go_simp <;> with_reducible rfl)
      refine Jz 5 hS0 ?_ (hv := by intro w' hSw; obtain ⟨r0, r1, _⟩ := blk2 hSw.1; obtain ⟨q0, q1, q2⟩ := cells3 hSw.2; go_simp <;> with_reducible rfl)
      refine Jz 6 hS0 ?_ (hv := by intro w' hSw; obtain ⟨r0, r1, _⟩ := blk2 hSw.1; obtain ⟨q0, q1, q2⟩ := cells3 hSw.2; go_simp <;> with_reducible rfl)
      refine Jz 7 hS0 ?_ (hv := by intro w' hSw; obtain ⟨r0, r1, _⟩ := blk2 hSw.1; obtain ⟨q0, q1, q2⟩ := cells3 hSw.2; go_simp <;> with_reducible rfl)
      refine Jz 8 hS0 ?_ (hv := by intro w' hSw; obtain ⟨r0, r1, _⟩ := blk2 hSw.1; obtain ⟨q0, q1, q2⟩ := cells3 hSw.2; go_simp <;> with_reducible rfl)
      refine Jz 9 hS0 ?_ (hv := by intro w' hSw; obtain ⟨r0, r1, _⟩ := blk2 hSw.1; obtain ⟨q0, q1, q2⟩ := cells3 hSw.2; go_simp <;> with_reducible rfl)
      refine Jz 10 hS0 ?_ (hv := by intro w' hSw; obtain ⟨r0, r1, _⟩ := blk2 hSw.1; obtain ⟨q0, q1, q2⟩ := cells3 hSw.2; go_simp <;> with_reducible rfl)
      refine Jz 11 hS0 ?_ (hv := by intro w' hSw; obtain ⟨r0, r1, _⟩ := blk2 hSw.1; obtain ⟨q0, q1, q2⟩ := cells3 hSw.2; go_simp <;> with_reducible rfl)
      clear hS0
      have HNDd : Hid (Blk wo.drew w.heap.size 55 ((ndRow es).take (k * 2) ++ Z.drop (k * 2)).toArray) := HND.out
      have HBXd : Hid (Blk wo.drew (w.heap.size + 1 + 1) 53 #[.slice (some ⟨w.heap.size, 0, none⟩) n n, .map (some (w.heap.size + 1))]) := HBX.out
      have HMPd : Hid (OwnX wo.drew (w.heap.size + 1) (Ix.upTo (fls es) k 0).length D) := HMP.out
      have HGXd : Hid (Gx wo.drew (w.heap.size + 1 + 1 + 1) D (Ix.upTo (fls es) k 0) S) := HGX.out.below (show Below wo.heap.size wo wo.drew from (Below.refl _ _).drew)
      have HBd : Hid (Below w.heap.size w wo.drew) := HB.out.drew
      have HSZd : Hid ((w.heap.size + 1 + 1 + 1) ≤ wo.drew.heap.size) := HSZ.out
      have BEd : Hid (Blk wo.drew pe 40 #[.int .i64 xi, .int .i64 xr, .slice xA xn xc]) := BE.out
      clear HND HBX HMP HGX HB HSZ BE
      have HND := HNDd
      clear HNDd
      have HBX := HBXd
      clear HBXd
      have HMP := HMPd
      clear HMPd
      have HGX := HGXd
      clear HGXd
      have HB := HBd
      clear HBd
      have HSZ := HSZd
      clear HSZd
      have BE := BEd
      clear BEd
      generalize wo.drew = wA at *
      refine Je 12 (fun K hK => ?_)
      have hsz : ((ndRow es).take (k * 2) ++ Z.drop (k * 2)).toArray.size = n * 2 := by rw [fill_size _ HZ.out, HRL.out]
      have HN1 := Blk.put HND.out (k * 2) (.int .i64 xi)
      have HN2 := Blk.put HN1 (k * 2 + 1) (.int .i64 (xn : Int))
      rw [fill2 (by rw [HRL.out]; omega) HZ.out HNV.out.1 HNV.out.2] at HN2
      obtain ⟨z0, e0⟩ : ∃ v, wA.cell? ⟨w.heap.size, k * 2, none⟩ = some v := ⟨_, (HND.out.cell (k * 2)).trans (Array.getElem?_eq_getElem (by rw [hsz]; omega))⟩
      have f0 := HND.out.frozen (k * 2)
      obtain ⟨z1, e1⟩ : ∃ v, (wA.setCell ⟨w.heap.size, k * 2, none⟩ (.int .i64 xi)).cell? ⟨w.heap.size, k * 2 + 1, none⟩ = some v := ⟨_, (HN1.cell (k * 2 + 1)).trans (Array.getElem?_eq_getElem (by rw [Array.size_setIfInBounds, hsz]; omega))⟩
      have f1 := HN1.frozen (k * 2 + 1)
      replace HN2 := Lib.hid HN2
      replace HN1 := Lib.hid HN1
      clear hsz
      go_simp
      have TT : Touch w.heap.size wA ((wA.setCell ⟨w.heap.size, k * 2, none⟩ (.int .i64 xi)).setCell ⟨w.heap.size, k * 2 + 1, none⟩ (.int .i64 (xn : Int))) := ((Touch.refl _ _).set_ _ _).set_ _ _
      have HNDd : Hid (Blk ((wA.setCell ⟨w.heap.size, k * 2, none⟩ (.int .i64 xi)).setCell ⟨w.heap.size, k * 2 + 1, none⟩ (.int .i64 (xn : Int))) w.heap.size 55 ((ndRow es).take ((k + 1) * 2) ++ Z.drop ((k + 1) * 2)).toArray) := HN2.out
      replace HBX := Lib.hid (TT.blk HBX.out (by omega))
      replace BE := Lib.hid (TT.blk BE.out (by omega))
      replace HMP := Lib.hid (World.ownsMap.kept HMP.out TT (by simp))
      replace HGX := Lib.hid (HGX.out.kept TT (by omega))
      replace HB := Lib.hid (TT.below HB.out (by have := HB.out.size; omega) (Nat.le_refl _))
      replace HSZ : Hid (_ ≤ _) := Nat.le_trans HSZ.out TT.size
      refine hK.out _ _ ⟨HBX.out, BE.out⟩ ?_
      clear hK HND HN1 HN2 e0 e1 f0 f1 TT z0 z1
      have HND := HNDd
      clear HNDd
      generalize ((wA.setCell ⟨w.heap.size, k * 2, none⟩ (.int .i64 xi)).setCell ⟨w.heap.size, k * 2 + 1, none⟩ (.int .i64 (xn : Int))) = wB at *
      refine Jd ?_
      obtain ⟨q0, q1, q2⟩ := cells3 BE.out
      have hlq := BE.out.lt
      go_wp2_with fail
      clear q0 q1 q2 hlq BE
      go_loopg [36] xn (fun g2 s36 wy => ∃ (j : Nat) (D : DataW Sl) (S : Pr → Sl), j ≤ xn ∧ xn - j ≤ g2 ∧ s36 = .int .i64 (j : Int) ∧ Hid (Blk wy w.heap.size 55 ((ndRow es).take ((k + 1) * 2) ++ Z.drop ((k + 1) * 2)).toArray) ∧ Hid (Blk wy (w.heap.size + 1 + 1) 53 #[.slice (some ⟨w.heap.size, 0, none⟩) n n, .map (some (w.heap.size + 1))]) ∧ Hid (OwnX wy (w.heap.size + 1) (Ix.upTo (fls es) k j).length D) ∧ Hid (Gx wy (w.heap.size + 1 + 1 + 1) D (Ix.upTo (fls es) k j) S) ∧ Hid (Below w.heap.size w wy) ∧ Hid ((w.heap.size + 1 + 1 + 1) ≤ wy.heap.size))
      case atStart => exact ⟨0, D, S, Nat.zero_le _, by omega, rfl, HND, HBX, HMP, HGX, HB, HSZ⟩
      case round =>
        clear HND HBX HMP HGX HB HSZ
        obtain ⟨j, D, S, hj, hgj, rfl, HND, HBX, HMP, HGX, HB, HSZ⟩ := hrel
        by_cases hlj : j < xn
        · have hj' : j < xf.length := by rw [HXL.out]; exact hlj
          obtain ⟨g1, off1, rfl, hg1, c0, c1, c2, c3, c4⟩ := RdQ.at5 (RdK.below HRX.out HB.out) hj'
          have hko := HXC.out _ (List.getElem_mem hj')
          have HUP : Hid (Ix.upTo (fls es) k (j + 1) = Ix.upTo (fls es) k j ++ [(xf[j], k)]) := Ix.upTo_step HFK.out hj'
          have HLE : Hid ((Ix.upTo (fls es) k j).length ≤ 1000000) := Nat.le_trans (Ix.upTo_len (by rw [HFN.out]; omega)) HFL.out
          obtain ⟨y, hy⟩ : ∃ y, xf[j] = y := ⟨_, rfl⟩
          rw [hy] at c0 c1 c2 c3 c4 hko HUP
          clear hy
          obtain ⟨yn, yo, yk, yi, yt⟩ := y
          dsimp only at c0 c1 c2 c3 c4
          have HKO := Lib.hid hko
          clear hko
          have w6 : (j : Int) < (xn : Int) := by omega
          have hbP : Below wr.heap.size wr (wr.alloc (.cells #[.string ⟨yn.toArray⟩, .int .i64 yo, .int .i64 yk, .int .i64 yi, .string ⟨yt.toArray⟩] 47)) := (gr1 wr (.cells #[.string ⟨yn.toArray⟩, .int .i64 yo, .int .i64 yk, .int .i64 yi, .string ⟨yt.toArray⟩] 47)).below
          have BP := Lib.hid (Blk.new wr 47 #[.string ⟨yn.toArray⟩, .int .i64 yo, .int .i64 yk, .int .i64 yi, .string ⟨yt.toArray⟩])
          have hpp : w.heap.size + 1 + 1 < wr.heap.size := HBX.out.lt
          have HOLD : Hid (∀ s : Sl, (Maps.has D (KL ⟨yn, yo, yk, yi, yt⟩) = true ∧ ∀ z, D.atKey (KL ⟨yn, yo, yk, yi, yt⟩) z = .held s) ∨ (Maps.has D (KL ⟨yn, yo, yk, yi, yt⟩) = false ∧ s = ⟨none, 0, 0⟩) → ∀ i, (slV s).ownBlock = some i → i < wr.heap.size) := fun s hs i hi => ((HGX.out.look HKO.out hs).1.lt i hi).2
          replace HND := Lib.hid (Blk.below HND.out hbP HND.out.lt)
          replace HBX := Lib.hid (Blk.below HBX.out hbP HBX.out.lt)
          replace HMP := Lib.hid (OwnX.below HMP.out hbP)
          replace HGX := Lib.hid (HGX.out.below hbP)
          replace HSZ : Hid (_ ≤ _) := Nat.le_trans HSZ.out hbP.size
          replace HB := Lib.hid (below_next HB.out (by have := HB.out.size; omega) hbP)
          clear hbP
          go_wp2_with fail
          clear c0 c1 c2 c3 c4 hg1
          generalize wr.alloc (.cells #[.string ⟨yn.toArray⟩, .int .i64 yo, .int .i64 yk, .int .i64 yi, .string ⟨yt.toArray⟩] 47) = wo at *
          generalize wr.heap.size = pp at *
          have hS0 : Blk wo.drew (w.heap.size + 1 + 1) 53 #[.slice (some ⟨w.heap.size, 0, none⟩) n n, .map (some (w.heap.size + 1))] ∧ Blk wo.drew pp 47 #[.string ⟨yn.toArray⟩, .int .i64 yo, .int .i64 yk, .int .i64 yi, .string ⟨yt.toArray⟩] := ⟨HBX.out, BP.out⟩
          refine wp_region_held_drew (S := fun w' => Blk w' (w.heap.size + 1 + 1) 53 #[.slice (some ⟨w.heap.size, 0, none⟩) n n, .map (some (w.heap.size + 1))] ∧ Blk w' pp 47 #[.string ⟨yn.toArray⟩, .int .i64 yo, .int .i64 yk, .int .i64 yi, .string ⟨yt.toArray⟩]) (by kernel_rfl) hS0 (fun _ => ?_)
          refine Jz 0 hS0 ?_ (hv := by intro w' hSw; obtain ⟨r0, r1, _⟩ := blk2 hSw.1; obtain ⟨q0, q1, q2, q3, q4, _⟩ := blk5 hSw.2; go_simp <;> with_reducible rfl)
          refine Jz 1 hS0 ?_ (hv := by intro w' hSw; obtain ⟨r0, r1, _⟩ := blk2 hSw.1; obtain ⟨q0, q1, q2, q3, q4, _⟩ := blk5 hSw.2; go_simp <;> with_reducible rfl)
          refine Jz 2 hS0 ?_ (hv := by intro w' hSw; obtain ⟨r0, r1, _⟩ := blk2 hSw.1; obtain ⟨q0, q1, q2, q3, q4, _⟩ := blk5 hSw.2; go_simp <;> with_reducible rfl)
          refine Jz 3 hS0 ?_ (hv := by intro w' hSw; obtain ⟨r0, r1, _⟩ := blk2 hSw.1; obtain ⟨q0, q1, q2, q3, q4, _⟩ := blk5 hSw.2; go_simp <;> with_reducible rfl)
          refine Jz 4 hS0 ?_ (hv := by intro w' hSw; obtain ⟨r0, r1, _⟩ := blk2 hSw.1; obtain ⟨q0, q1, q2, q3, q4, _⟩ := blk5 hSw.2; go_simp <;> with_reducible rfl)
          refine Jz 5 hS0 ?_ (hv := by intro w' hSw; obtain ⟨r0, r1, _⟩ := blk2 hSw.1; obtain ⟨q0, q1, q2, q3, q4, _⟩ := blk5 hSw.2; go_simp <;> with_reducible rfl)
          clear hS0
          have HNDd : Hid (Blk wo.drew w.heap.size 55 ((ndRow es).take ((k + 1) * 2) ++ Z.drop ((k + 1) * 2)).toArray) := HND.out
          have HBXd : Hid (Blk wo.drew (w.heap.size + 1 + 1) 53 #[.slice (some ⟨w.heap.size, 0, none⟩) n n, .map (some (w.heap.size + 1))]) := HBX.out
          have HMPd : Hid (OwnX wo.drew (w.heap.size + 1) (Ix.upTo (fls es) k j).length D) := HMP.out
          have HGXd : Hid (Gx wo.drew (w.heap.size + 1 + 1 + 1) D (Ix.upTo (fls es) k j) S) := HGX.out.below (show Below wo.heap.size wo wo.drew from (Below.refl _ _).drew)
          have HBd : Hid (Below w.heap.size w wo.drew) := HB.out.drew
          have HSZd : Hid ((w.heap.size + 1 + 1 + 1) ≤ wo.drew.heap.size) := HSZ.out
          have BPd : Hid (Blk wo.drew pp 47 #[.string ⟨yn.toArray⟩, .int .i64 yo, .int .i64 yk, .int .i64 yi, .string ⟨yt.toArray⟩]) := BP.out
          clear HND HBX HMP HGX HB HSZ BP
          have HND := HNDd
          clear HNDd
          have HBX := HBXd
          clear HBXd
          have HMP := HMPd
          clear HMPd
          have HGX := HGXd
          clear HGXd
          have HB := HBd
          clear HBd
          have HSZ := HSZd
          clear HSZd
          have BP := BPd
          clear BPd
          generalize wo.drew = wA at *
          refine Je 6 (fun K hK => ?_)
          go_simp
          have hbI : Below wA.heap.size wA (wA.alloc (.cells #[.int .i64 (k : Int)] 3)) := (gr1 wA (.cells #[.int .i64 (k : Int)] 3)).below
          have BI := Lib.hid (Blk.new wA 3 #[.int .i64 (k : Int)])
          have hpi : w.heap.size + 1 + 1 + 1 ≤ wA.heap.size := HSZ.out
          replace HND := Lib.hid (Blk.below HND.out hbI HND.out.lt)
          replace HBX := Lib.hid (Blk.below HBX.out hbI HBX.out.lt)
          replace BP := Lib.hid (Blk.below BP.out hbI BP.out.lt)
          replace HMP := Lib.hid (OwnX.below HMP.out hbI)
          replace HGX := Lib.hid (HGX.out.below hbI)
          replace HSZ : Hid (_ ≤ _) := Nat.le_trans HSZ.out hbI.size
          replace HB := Lib.hid (below_next HB.out (by have := HB.out.size; omega) hbI)
          clear hbI
          generalize wA.alloc (.cells #[.int .i64 (k : Int)] 3) = wB at *
          generalize wA.heap.size = pi at *
          refine hK.out _ _ ⟨HBX.out, BP.out⟩ ?_
          clear hK
          refine Je 7 (fun K hK => ?_)
          obtain ⟨⟨sA, sn, sc⟩, st, wE, hE, hgE, hzE, hsE, hst⟩ := entry_x (p := ⟨yn, yo, yk, yi, yt⟩) HMP.out HKO.out (by rw [maxLen_num]; have := HLE.out; omega)
          obtain ⟨hso, hap⟩ := HGX.out.look HKO.out hsE
          dsimp only [prV, slV] at hE hso hap
          have hso2 := OwnZ.kept_b hso hgE (by omega)
          have hgx2 := HGX.out.kept hgE (by omega)
          replace HND := Lib.hid (Blk.kept HND.out hgE (by simp))
          replace HBX := Lib.hid (Blk.kept HBX.out hgE (by simp))
          replace BP := Lib.hid (Blk.kept BP.out hgE (by simp; omega))
          replace BI := Lib.hid (Blk.kept BI.out hgE (by simp; omega))
          replace HB := Lib.hid (HB.out.grown hgE (by have := HB.out.size; omega) (fun q hq => (by injection hq with hq; omega)))
          replace HSZ : Hid ((w.heap.size + 1 + 1 + 1) ≤ wE.heap.size) := (by show _ ≤ _; rw [hzE]; exact HSZ.out)
          go_simp
          refine hK.out _ _ ⟨HBX.out, BP.out⟩ ?_
          clear hK hE hso HGX hgE
          refine Jz 8 ⟨HBX.out, BP.out⟩ ?_
          refine Jz 10 ⟨HBX.out, BP.out⟩ ?_
          refine Je 9 (fun K hK => ?_)
          refine op_append_at layI (.tmp 45) (.tmp 47) 32 underI (by rfl) (w.heap.size + 1 + 1 + 1) _ _ (by rfl) hso2 (some ⟨pi, 0, none⟩) [(k : Int)] 1 1 (by rfl) (rdz_of_flat BI.out (by rfl)) rfl (by rw [maxLen_num]; have := HLE.out; have := Ix.plc_len (Ix.upTo (fls es) k j) ⟨yn, yo, yk, yi, yt⟩; omega) (by show (_ + 1) * 8 ≤ _; have := HLE.out; have := Ix.plc_len (Ix.upTo (fls es) k j) ⟨yn, yo, yk, yi, yt⟩; omega) HSZ.out ?_
          intro v' w' ho' hg' hloc
          obtain ⟨⟨A', n', c'⟩, rfl⟩ : ∃ s : Sl, v' = slV s := (by obtain ⟨A', c', e, _⟩ := OwnZ.rd ho'; exact ⟨⟨A', _, c'⟩, e⟩)
          have hnb : some (w.heap.size + 1) ≠ (Value.slice sA sn sc).ownBlock := own_ne_b hso2 (by omega)
          have hrow : ∀ (q : Nat), q < w.heap.size + 1 + 1 + 1 → some q ≠ (Value.slice sA sn sc).ownBlock := fun q hq => own_ne_b hso2 hq
          have hgx3 := hgx2.snoc (k := k) (s := ⟨sA, sn, sc⟩) HKO.out hap hg' ho' (hloc.imp id fun e => ⟨_, e, Nat.le_refl _⟩)
          rw [← HUP.out] at hgx3
          have hmb : w'.heap[w.heap.size + 1]? = wE.heap[w.heap.size + 1]? := hg'.block _ (by have := HBX.out.lt; omega) hnb
          replace HND := Lib.hid (Blk.kept HND.out hg' (hrow _ (by omega)))
          replace HBX := Lib.hid (Blk.kept HBX.out hg' (hrow _ (by omega)))
          replace HB := Lib.hid (HB.out.grown hg' (by have := HB.out.size; omega) (fun q hq => (by have := (hso2.lt q hq).1; omega)))
          replace HSZ : Hid (_ ≤ _) := Nat.le_trans HSZ.out hg'.size
          have hpb : Blk w' pp 47 #[.string ⟨yn.toArray⟩, .int .i64 yo, .int .i64 yk, .int .i64 yi, .string ⟨yt.toArray⟩] := Blk.kept BP.out hg' (fun e => (by have := HOLD.out _ hsE pp e.symm; omega))
          replace BP := Lib.hid hpb
          clear hpb
          refine hK.out _ _ ⟨HBX.out, BP.out⟩ ?_
          clear hK hgx2 hap hsE hloc
          simp only [Act.put, zu0, zu1, zu2]
          refine Je 11 (fun K hK => ?_)
          obtain ⟨w3, hS3, ho3, hg3, hz3⟩ := hst w' ⟨A', n', c'⟩ hmb
          clear hst
          dsimp only [slV] at hS3
          go_simp
          have hgx4 := hgx3.kept hg3 (by omega)
          replace HND := Lib.hid (Blk.kept HND.out hg3 (by simp))
          replace HBX := Lib.hid (Blk.kept HBX.out hg3 (by simp))
          replace BP := Lib.hid (Blk.kept BP.out hg3 (by simp; omega))
          replace HB := Lib.hid (HB.out.grown hg3 (by have := HB.out.size; omega) (fun q hq => (by injection hq with hq; omega)))
          replace HSZ : Hid ((w.heap.size + 1 + 1 + 1) ≤ w3.heap.size) := (by show _ ≤ _; rw [hz3]; exact HSZ.out)
          have HMP3 : Hid (OwnX w3 (w.heap.size + 1) (Ix.upTo (fls es) k (j + 1)).length (D.put (KL ⟨yn, yo, yk, yi, yt⟩) (.held ⟨A', n', c'⟩))) := (by show OwnX _ _ _ _; rw [HUP.out, List.length_append]; exact ho3)
          replace hgx4 := Lib.hid hgx4
          refine hK.out _ _ ⟨HBX.out, BP.out⟩ ?_
          clear hK hS3 ho3 hg3 hz3 hgx3 ho' hg' hmb hrow hnb hso2 HOLD
          refine Jd ?_
          clear BP HMP
          go_wp2_with fail
          go_roundg (xn - (j + 1))
          case measure => omega
          case rel => exact ⟨j + 1, _, _, by omega, Nat.le_refl _, by go_num, HND, HBX, HMP3, hgx4, HB, HSZ⟩
        · obtain rfl : j = xn := by omega
          have hup : Ix.upTo (fls es) k j = Ix.upTo (fls es) (k + 1) 0 := (by have := Ix.upTo_row HFK.out; rw [HXL.out] at this; exact this)
          have HMP3 : Hid (OwnX wr (w.heap.size + 1) (Ix.upTo (fls es) (k + 1) 0).length D) := (by show OwnX _ _ _ _; rw [← hup]; exact HMP.out)
          have HGX3 : Hid (Gx wr (w.heap.size + 1 + 1 + 1) D (Ix.upTo (fls es) (k + 1) 0) S) := (by show Gx _ _ _ _ _; rw [← hup]; exact HGX.out)
          clear hup HMP HGX
          go_wp2_with fail
          go_roundg (n - (k + 1))
          case measure => omega
          case rel => exact ⟨k + 1, _, _, by omega, Nat.le_refl _, by go_num, HND, HBX, HMP3, HGX3, HB, HSZ⟩
    · obtain rfl : k = n := by omega
      go_wp2_with fail
      go_ret
      refine ⟨_, rfl, ⟨w.heap.size, w.heap.size + 1, _, w.heap.size + 1 + 1 + 1, D, S, ⟨?_, ?_, HMP.out, ?_⟩⟩, HB.out⟩
      · rw [HN.out]; exact HBX.out
      · have := HND.out
        rw [List.take_of_length_le (by rw [HRL.out]; exact Nat.le_refl _), List.drop_eq_nil_of_le (by rw [← HZ.out, HRL.out]; exact Nat.le_refl _), List.append_nil] at this
        exact this
      · have := HGX.out
        rw [show k = (fls es).length from HFN.out.symm, Ix.upTo_all] at this
        exact this
end Go.Proofs.Ytnfigjggjmncdaa
