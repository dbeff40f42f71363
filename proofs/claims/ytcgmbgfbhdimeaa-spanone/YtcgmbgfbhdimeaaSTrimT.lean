/- Package span: trimTexts. -/
import Derived.Test.YtcgmbgfbhdimeaaSTrimN
namespace Go.Proofs.Ytcgmbgfbhdimeaa
open Go.RowKit Go.Sort Spans Op
theorem boxT_tch {A : Option Addr} {G : Nat} {f t : List UInt8} {o : Bool} (hA : ∀ a, A = some a → a.block < G) : ∀ W W', BoxT G f t o W → Tch A W W' → BoxT G f t o W' :=
  fun _ _ ⟨h0, h1, h2, h3⟩ hT => ⟨Nat.lt_of_lt_of_le h0 hT.size, (hT.cell (p := ⟨G, 3, none⟩) h0 hA).trans h1, (hT.cell (p := ⟨G, 4, none⟩) h0 hA).trans h2, (hT.cell (p := ⟨G, 5, none⟩) h0 hA).trans h3⟩
set_option maxRecDepth 100000 in
set_option maxHeartbeats 4000000 in
theorem trimText_at (frm to : List UInt8) (o : Bool) (A : Option Addr) (n c : Nat) (w : World) (base : Nat) (l : List Val) (hfs : Short frm) (hot : o = true → to = []) (hts : o = false → Short to) (hn : l.length = n) (hm : n ≤ 100000)
    (hl : ∀ v ∈ l, v.k = 2 ∧ v.i = 0 ∧ v.t.length ≤ 32) (hr : RiseV l) (ho : OwnW w base (.slice A n c) l) :
    Calls Try.prog 62 #[spF 2 0 0 frm to o A n c] w (Trims (IsTexts frm to o l) A n w) := by
  have HN := Lib.hid hn
  have HFS := Lib.hid hfs
  have HOT := Lib.hid hot
  have HTS := Lib.hid hts
  have HLL := Lib.hid hl
  clear hn hfs hot hts
  have hgr := gr2 w (.cells #[.int .i64 2, .int .i64 0, .int .i64 0, .string ⟨frm.toArray⟩, .string ⟨to.toArray⟩, .bool o, .slice A n c] 29) (.cells #[.int .i64 0, .int .i64 0, .int .i64 0, .string ⟨#[]⟩, .string ⟨#[]⟩, .bool false, .slice none 0 0] 29)
  have hbx := (Blk.new w 29 #[.int .i64 2, .int .i64 0, .int .i64 0, .string ⟨frm.toArray⟩, .string ⟨to.toArray⟩, .bool o, .slice A n c]).alloc (.cells #[.int .i64 0, .int .i64 0, .int .i64 0, .string ⟨#[]⟩, .string ⟨#[]⟩, .bool false, .slice none 0 0] 29)
  have hrs := Blk.new (w.alloc (.cells #[.int .i64 2, .int .i64 0, .int .i64 0, .string ⟨frm.toArray⟩, .string ⟨to.toArray⟩, .bool o, .slice A n c] 29)) 29 #[.int .i64 0, .int .i64 0, .int .i64 0, .string ⟨#[]⟩, .string ⟨#[]⟩, .bool false, .slice none 0 0]
  rw [show (w.alloc (.cells #[.int .i64 2, .int .i64 0, .int .i64 0, .string ⟨frm.toArray⟩, .string ⟨to.toArray⟩, .bool o, .slice A n c] 29)).heap.size = w.heap.size + 1 by simp] at hrs
  have hA0 := fun a ha => (own_addr ho a ha).2
  have ho2 := OwnK.below ho hgr.below
  have eg : ∀ args w, (callFunc 78 args).run Try.prog w = .ok (.enter 78 args) w := enters_of Try.func78 (by kernel_rfl) rfl
  have hbN : BoxT w.heap.size frm to o ((w.alloc (.cells #[.int .i64 2, .int .i64 0, .int .i64 0, .string ⟨frm.toArray⟩, .string ⟨to.toArray⟩, .bool o, .slice A n c] 29)).alloc (.cells #[.int .i64 0, .int .i64 0, .int .i64 0, .string ⟨#[]⟩, .string ⟨#[]⟩, .bool false, .slice none 0 0] 29)) := ⟨hbx.lt, hbx.cell 3, hbx.cell 4, hbx.cell 5⟩
  have hsz : ((w.alloc (.cells #[.int .i64 2, .int .i64 0, .int .i64 0, .string ⟨frm.toArray⟩, .string ⟨to.toArray⟩, .bool o, .slice A n c] 29)).alloc (.cells #[.int .i64 0, .int .i64 0, .int .i64 0, .string ⟨#[]⟩, .string ⟨#[]⟩, .bool false, .slice none 0 0] 29)).heap.size = w.heap.size + 2 := by simp
  have hB2 : Tch A w ((w.alloc (.cells #[.int .i64 2, .int .i64 0, .int .i64 0, .string ⟨frm.toArray⟩, .string ⟨to.toArray⟩, .bool o, .slice A n c] 29)).alloc (.cells #[.int .i64 0, .int .i64 0, .int .i64 0, .string ⟨#[]⟩, .string ⟨#[]⟩, .bool false, .slice none 0 0] 29)) := Tch.of_below hgr.below
  have hdel := deleteV_own (BoxT w.heap.size frm to o) 78 #[.pointer (some ⟨w.heap.size, 0, none⟩)] (outT frm to o) (predT_at w.heap.size frm to o) eg HN.out hm ho2 hbN (boxT_tch hA0)
  clear ho ho2 hbN eg
  go_enter Try.func62, Try.ntmps62
  go_wp2_with fail
  generalize hw2 : ((w.alloc (.cells #[.int .i64 2, .int .i64 0, .int .i64 0, .string ⟨frm.toArray⟩, .string ⟨to.toArray⟩, .bool o, .slice A n c] 29)).alloc (.cells #[.int .i64 0, .int .i64 0, .int .i64 0, .string ⟨#[]⟩, .string ⟨#[]⟩, .bool false, .slice none 0 0] 29)) = w2 at *
  clear hw2
  refine hdel.mono ?_
  rintro e w3 ⟨n3, rfl, hl3, hn3, ho3, ht3⟩
  clear hdel
  have HTN := Lib.hid (TT.start hl hr (outT frm to o) (fun _ => rfl))
  have HB3 := Lib.hid (hB2.trans ht3)
  have HX3 := Lib.hid (ht3.blk hbx hA0)
  have HY3 := Lib.hid (ht3.blk hrs fun a ha => Nat.lt_succ_of_lt (hA0 a ha))
  have HR3 := Lib.hid (Gives.rd ho3)
  have HL3 := Lib.hid hl3
  have HA0 := Lib.hid hA0
  have hc3 : n3 ≤ c := by
    obtain ⟨_, _, e, h, _⟩ := OwnK.rd ho3
    injection e with e1 e2 e3
    omega
  clear hl hr hgr hbx hrs hA0 hB2 ho3 ht3 hl3
  generalize (l.filter fun v => !outT frm to o v) = m3 at *
  generalize hG : w.heap.size = G at *
  have HG := Lib.hid hG
  clear hG hsz
  go_wp2_with fail
  go_loopg [3] n3 (fun gg s3 wr => ∃ (m : List Val) (a : Nat) (f : List UInt8) (A' : Option Addr) (k c' : Nat), s3 = .slice A' k c' ∧ k ≤ c' ∧ k ≤ n3 ∧ k ≤ gg ∧ Hid (zs frm a = f) ∧ Hid (m.length = k) ∧ Hid (TT frm to o l a 0 to m) ∧ Hid (RdW wr A' m) ∧ Hid (∀ a, A' = some a → a.block < G) ∧ Hid (Blk wr G 29 #[.int .i64 2, .int .i64 0, .int .i64 0, .string ⟨f.toArray⟩, .string ⟨to.toArray⟩, .bool o, .slice A n c]) ∧ Hid (Blk wr (G + 1) 29 #[.int .i64 0, .int .i64 0, .int .i64 0, .string ⟨#[]⟩, .string ⟨#[]⟩, .bool false, .slice none 0 0]) ∧ Hid (Tch A w wr))
  case atStart => exact ⟨m3, 0, frm, A, n3, c, rfl, hc3, Nat.le_refl _, Nat.le_refl _, zs_zero frm, HL3, HTN, HR3, HA0, HX3, HY3, HB3⟩
  case round =>
    obtain ⟨m, a, f, A', k, c', rfl, hkc, hkn, hkg, HF, HML, HT, HR, HA, HX, HY, HB⟩ := hrel
    clear HTN HB3 HX3 HY3 HR3 HL3 HA0
    have hltX := HX.out.lt
    have hltY := HY.out.lt
    have hne1 : ¬ G = G + 1 := by omega
    have hne2 : ¬ G + 1 = G := by omega
    have hfl : f.length ≤ 33 := by
      have := (moved_short (fun v hv => (HLL.out v hv).2.2) HFS.out HT.out.ga).len
      rw [HF.out] at this
      exact this
    have X3 := fun n os => cell_grown (w := wr) (a := ⟨G, 3, none⟩) hltX (HX.out.cell 3) n os
    have X4 := fun n os => cell_grown (w := wr) (a := ⟨G, 4, none⟩) hltX (HX.out.cell 4) n os
    have X5 := fun n os => cell_grown (w := wr) (a := ⟨G, 5, none⟩) hltX (HX.out.cell 5) n os
    simp at X3 X4 X5
    by_cases hk0 : k = 0
    · have HXO : Hid (∀ h0 : 0 < m.length, m[0].t ≠ zs frm a) := fun h0 => by have := HML.out; omega
      have w5 : decide (0 < k) = false := decide_eq_false (by omega)
      clear hk0
      go_wp2_with fail
      (refine hq_region mixedT (by kernel_rfl) ?_; (repeat (refine hq_step (fun K hK => ?_); go_simp; first | (refine hK _ ?_; clear hK K) | (apply Exists.intro; refine ⟨fun _ => ?_, hK _ ?_⟩; (fail); clear hK K))); refine hq_nil ?_; intro _ hw'; obtain ⟨⟨nq, osq⟩, hw''⟩ := hw'; subst hw'')
      have hgq : Grown wr (grow (wr.drewN nq) osq) := ⟨nq, osq, rfl⟩
      generalize grow (wr.drewN nq) osq = wq at *
      have HR1 := Lib.hid (HR.out.below hgq.below)
      have HX1 := Lib.hid (Blk.below HX.out hgq.below HX.out.lt)
      have HY1 := Lib.hid (Blk.below HY.out hgq.below HY.out.lt)
      have HB1 := Lib.hid (HB.out.trans (Tch.of_below hgq.below))
      clear HR HX HY HB hgq X3 X4 X5 hltX hltY w5
      have hltX := HX1.out.lt
      have hltY := HY1.out.lt
      obtain ⟨x0, x1, x2, x3, x4, x5, x6, p0, p1, p2, p3, p4, p5, p6⟩ := blk7 HX1.out
      obtain ⟨y0, y1, y2, y3, y4, y5, y6, q0, q1, q2, q3, q4, q5, q6⟩ := blk7 HY1.out
      cases o with
      | true =>
        have HLO : Hid ((⟨2, 0, zs frm a⟩ : Val) ∉ l) := HT.out.low_out (.inl rfl) HXO.out
        have hto := HOT.out rfl
        subst hto
        go_wp2_with fail
        clear x0 x1 x2 x3 x4 x5 x6 p0 p1 p2 p3 p4 p5 p6 y0 y1 y2 y3 y4 y5 y6 q0 q1 q2 q3 q4 q5 q6
        go_loopg [3] 0 (fun gg s3 wr => s3 = .slice (A') k c' ∧ Hid (RdW wr (A') m) ∧ Hid (Blk wr G 29 #[.int .i64 2, .int .i64 0, .int .i64 0, .string ⟨f.toArray⟩, .string ⟨([] : List UInt8).toArray⟩, .bool true, .slice A n c]) ∧ Hid (Blk wr (G + 1) 29 #[.int .i64 0, .int .i64 0, .int .i64 0, .string ⟨#[]⟩, .string ⟨#[]⟩, .bool false, .slice none 0 0]) ∧ Hid (Tch A w wr))
        case atStart => exact ⟨rfl, HR1, HX1, HY1, HB1⟩
        case round =>
          obtain ⟨rfl, HR, HX, HY, HB⟩ := hrel
          clear HR1 HX1 HY1 HB1
          have hltX := HX.out.lt
          have hltY := HY.out.lt
          have X3 := fun n os => cell_grown (w := wr) (a := ⟨G, 3, none⟩) hltX (HX.out.cell 3) n os
          have X4 := fun n os => cell_grown (w := wr) (a := ⟨G, 4, none⟩) hltX (HX.out.cell 4) n os
          have X5 := fun n os => cell_grown (w := wr) (a := ⟨G, 5, none⟩) hltX (HX.out.cell 5) n os
          simp at X3 X4 X5
          go_wp2_with fail
          (refine hq_region mixedT (by kernel_rfl) ?_; (repeat (refine hq_step (fun K hK => ?_); go_simp; first | (refine hK _ ?_; clear hK K) | (apply Exists.intro; refine ⟨fun _ => ?_, hK _ ?_⟩; (fail); clear hK K))); refine hq_nil ?_; intro _ hw'; obtain ⟨⟨nq, osq⟩, hw''⟩ := hw'; subst hw'')
          have hgq : Grown wr (grow (wr.drewN nq) osq) := ⟨nq, osq, rfl⟩
          generalize grow (wr.drewN nq) osq = wq at *
          have HR1 := Lib.hid (HR.out.below hgq.below)
          have HX1 := Lib.hid (Blk.below HX.out hgq.below HX.out.lt)
          have HY1 := Lib.hid (Blk.below HY.out hgq.below HY.out.lt)
          have HB1 := Lib.hid (HB.out.trans (Tch.of_below hgq.below))
          clear HR HX HY HB hgq X3 X4 X5 hltX hltY 
          have hltX := HX1.out.lt
          have hltY := HY1.out.lt
          obtain ⟨x0, x1, x2, x3, x4, x5, x6, p0, p1, p2, p3, p4, p5, p6⟩ := blk7 HX1.out
          obtain ⟨y0, y1, y2, y3, y4, y5, y6, q0, q1, q2, q3, q4, q5, q6⟩ := blk7 HY1.out
          go_wp2_with fail
          refine bodyPost_ret (v := spF 2 0 0 f [] true (A') k c') (by simp [results, Try.results62, go_sem, y0, y1, y2, y3, y4, y5, y6]) rfl ?_
          refine ⟨⟨2, 0, 0, f, [], true, m⟩, A', k, c', rfl, HML.out, by omega, RdK.put7 (RdK.set_ HR1.out HA.out 6 _) (fun a ha => Nat.lt_succ_of_lt (HA.out a ha)) _ _ _ _ _ _ _, tch_put7 (tch_set HB1.out (Nat.le_of_eq HG.out)) (by have := HG.out; omega) _ _ _ _ _ _ _, ?_⟩
          rw [← HF.out]
          exact HT.out.done HFS.out (fun _ => rfl) (fun h => by simp at h) HLO.out
      | false =>
        have HTS2 : Hid (Short to) := HTS.out rfl
        clear HTS HOT
        cases hlt : bytesLess f to with
        | false =>
          have HNO : Hid (IsTexts frm to false l none_) := HT.out.none_ (by rw [HF.out]; exact hlt)
          go_wp2_with fail
          refine bodyPost_ret (v := spF 0 0 0 [] [] false none 0 0) (by simp [results, Try.results62, go_sem, y0, y1, y2, y3, y4, y5, y6]) rfl ?_
          exact ⟨none_, none, 0, 0, rfl, rfl, Nat.zero_le _, .inl rfl, tch_put7 HB1.out (by have := HG.out; omega) _ _ _ _ _ _ _, HNO.out⟩
        | true =>
          have HLO : Hid ((⟨2, 0, zs frm a⟩ : Val) ∉ l) := HT.out.low_out (.inr (by rw [HF.out]; exact hlt)) HXO.out
          have HLT : Hid (bytesLess (zs frm a) to = true) := by show _ = _; rw [HF.out]; exact hlt
          go_wp2_with fail
          clear hlt x0 x1 x2 x3 x4 x5 x6 p0 p1 p2 p3 p4 p5 p6 y0 y1 y2 y3 y4 y5 y6 q0 q1 q2 q3 q4 q5 q6
          go_loopg [3] k (fun gg s3 wr => ∃ (m : List Val) (b : Nat) (e : List UInt8) (A' : Option Addr) (k' : Nat), s3 = .slice A' k' c' ∧ k' ≤ c' ∧ k' ≤ n3 ∧ k' ≤ gg ∧ Hid (m.length = k') ∧ Hid (TT frm to false l a b e m) ∧ Hid (bytesLess (zs frm a) e = true) ∧ Hid (RdW wr A' m) ∧ Hid (∀ a, A' = some a → a.block < G) ∧ Hid (Blk wr G 29 #[.int .i64 2, .int .i64 0, .int .i64 0, .string ⟨f.toArray⟩, .string ⟨e.toArray⟩, .bool false, .slice A n c]) ∧ Hid (Blk wr (G + 1) 29 #[.int .i64 0, .int .i64 0, .int .i64 0, .string ⟨#[]⟩, .string ⟨#[]⟩, .bool false, .slice none 0 0]) ∧ Hid (Tch A w wr))
          case atStart => exact ⟨m, 0, to, A', k, rfl, hkc, hkn, Nat.le_refl _, HML, HT, HLT, HR1, HA, HX1, HY1, HB1⟩
          case round =>
            obtain ⟨m, b, e, A', k, rfl, hkc, hkn, hkg, HML, HT, HLT2, HR, HA, HX, HY, HB⟩ := hrel
            clear HR1 HX1 HY1 HB1
            have hltX := HX.out.lt
            have hltY := HY.out.lt
            have X3 := fun n os => cell_grown (w := wr) (a := ⟨G, 3, none⟩) hltX (HX.out.cell 3) n os
            have X4 := fun n os => cell_grown (w := wr) (a := ⟨G, 4, none⟩) hltX (HX.out.cell 4) n os
            have X5 := fun n os => cell_grown (w := wr) (a := ⟨G, 5, none⟩) hltX (HX.out.cell 5) n os
            simp at X3 X4 X5
            by_cases hk0 : k = 0
            · have HEO : Hid (∀ u, e = u ++ [0] → (⟨2, 0, u⟩ : Val) ∉ l) := HT.out.end_out HLT2.out fun h0 => by have := HML.out; omega
              have w5 : decide (0 < k) = false := decide_eq_false (by omega)
              clear hk0
              go_wp2_with fail
              (refine hq_region mixedT (by kernel_rfl) ?_; (repeat (refine hq_step (fun K hK => ?_); go_simp; first | (refine hK _ ?_; clear hK K) | (apply Exists.intro; refine ⟨fun _ => ?_, hK _ ?_⟩; (fail); clear hK K))); refine hq_nil ?_; intro _ hw'; obtain ⟨⟨nq, osq⟩, hw''⟩ := hw'; subst hw'')
              have hgq : Grown wr (grow (wr.drewN nq) osq) := ⟨nq, osq, rfl⟩
              generalize grow (wr.drewN nq) osq = wq at *
              have HR1 := Lib.hid (HR.out.below hgq.below)
              have HX1 := Lib.hid (Blk.below HX.out hgq.below HX.out.lt)
              have HY1 := Lib.hid (Blk.below HY.out hgq.below HY.out.lt)
              have HB1 := Lib.hid (HB.out.trans (Tch.of_below hgq.below))
              clear HR HX HY HB hgq X3 X4 X5 hltX hltY w5
              have hltX := HX1.out.lt
              have hltY := HY1.out.lt
              obtain ⟨x0, x1, x2, x3, x4, x5, x6, p0, p1, p2, p3, p4, p5, p6⟩ := blk7 HX1.out
              obtain ⟨y0, y1, y2, y3, y4, y5, y6, q0, q1, q2, q3, q4, q5, q6⟩ := blk7 HY1.out
              go_wp2_with fail
              refine bodyPost_ret (v := spF 2 0 0 f e false (A') k c') (by simp [results, Try.results62, go_sem, y0, y1, y2, y3, y4, y5, y6]) rfl ?_
              refine ⟨⟨2, 0, 0, f, e, false, m⟩, A', k, c', rfl, HML.out, by omega, RdK.put7 (RdK.set_ HR1.out HA.out 6 _) (fun a ha => Nat.lt_succ_of_lt (HA.out a ha)) _ _ _ _ _ _ _, tch_put7 (tch_set HB1.out (Nat.le_of_eq HG.out)) (by have := HG.out; omega) _ _ _ _ _ _ _, ?_⟩
              rw [← HF.out]
              exact HT.out.done HFS.out (fun h => by simp at h) (fun _ => ⟨HTS2.out, HLT2.out, HEO.out⟩) HLO.out
            · have hk1 : k - 1 < m.length := by rw [HML.out]; omega
              obtain ⟨g, off, rfl, hg, c0, c1, c2⟩ := RdW.at3 HR.out hk1
              have hgG : g < G := HA.out _ rfl
              have hne3 : ¬ g = G := by omega
              have hxm : m[k - 1] ∈ l := ((HT.out.mem _).1 (List.getElem_mem hk1)).1
              have hxl := (HLL.out _ hxm).2.2
              obtain ⟨x, hx⟩ : ∃ x, m[k - 1] = x := ⟨_, rfl⟩
              have HXX := Lib.hid hx
              rw [hx] at c0 c1 c2 hxl
              clear hx hxm
              obtain ⟨xk, xi, xt⟩ := x
              have hxl2 : xt.length ≤ 32 := hxl
              clear hxl
              have hadd := ba_app0 xt
              have wa : ¬ 9223372036854775807 < xt.length + 1 := by omega
              have wb : xt.length + 1 ≤ 9223372036854775807 := by omega
              have C2 := fun n os => cell_grown (w := wr) (a := ⟨g, off + (k - 1) * 3 + 2, none⟩) hg c2 n os
              clear c0 c1 c2
              have w1 : IntKind.i64.wrap ((k : Int) - 1) = (k : Int) - 1 := by rw [IntKind.wrap_i64]; omega
              have w2' : (0 : Int) ≤ (k : Int) - 1 := by omega
              have w3' : (k : Int) - 1 < (k : Int) := by omega
              have w4 : ((k : Int) - 1).toNat = k - 1 := by omega
              have w7 : (1 : Int) ≤ (k : Int) := by omega
              have w8 : 0 < k := by omega
              have w5 : decide (0 < k) = true := decide_eq_true (by omega)
              have hlast : ∀ h0 : 0 < m.length, m[m.length - 1] = ⟨xk, xi, xt⟩ := fun h0 => by
                have e : m.length - 1 = k - 1 := by rw [HML.out]
                simp only [e]
                exact HXX.out
              have HLA := Lib.hid hlast
              clear hlast
              by_cases hxe : xt ++ [0] = e
              · have HT2 : Hid (TT frm to false l a (b + 1) xt (m.take (k - 1))) := by
                  have h0 : 0 < m.length := by omega
                  have := HT.out.down h0 (by rw [HLA.out h0]; exact hxe)
                  rw [HLA.out h0, HML.out] at this
                  exact this
                have HLT3 : Hid (bytesLess (zs frm a) xt = true) := by
                  have h0 : 0 < m.length := by omega
                  have := HT.out.lt_down HLO.out h0
                  rw [HLA.out h0] at this
                  exact this
                subst hxe
                go_wp2_with fail
                (refine hq_region mixedT (by kernel_rfl) ?_; (repeat (refine hq_step (fun K hK => ?_); go_simp; first | (refine hK _ ?_; clear hK K) | (apply Exists.intro; refine ⟨fun _ => ?_, hK _ ?_⟩; (fail); clear hK K))); refine hq_nil ?_; intro _ hw'; obtain ⟨⟨nq, osq⟩, hw''⟩ := hw'; subst hw'')
                have hgq : Grown wr (grow (wr.drewN nq) osq) := ⟨nq, osq, rfl⟩
                generalize grow (wr.drewN nq) osq = wq at *
                have HR1 := Lib.hid (HR.out.below hgq.below)
                have HX1 := Lib.hid (Blk.below HX.out hgq.below HX.out.lt)
                have HY1 := Lib.hid (Blk.below HY.out hgq.below HY.out.lt)
                have HB1 := Lib.hid (HB.out.trans (Tch.of_below hgq.below))
                clear HR HX HY HB hgq X3 X4 X5 hltX hltY C2 w2' w3' w4 w5 w7 hadd wa wb
                have hltX := HX1.out.lt
                have hltY := HY1.out.lt
                obtain ⟨x0, x1, x2, x3, x4, x5, x6, p0, p1, p2, p3, p4, p5, p6⟩ := blk7 HX1.out
                obtain ⟨y0, y1, y2, y3, y4, y5, y6, q0, q1, q2, q3, q4, q5, q6⟩ := blk7 HY1.out
                have hc2 := (RdW.at3 HR1.out hk1)
                obtain ⟨g', off', e', hg', d0, d1, d2⟩ := hc2
                injection e' with e'
                injection e' with e1 e2
                subst e1; subst e2
                rw [HXX.out] at d0 d1 d2
                have w2' : (0 : Int) ≤ (k : Int) - 1 := by omega
                have w3' : (k : Int) - 1 < (k : Int) := by omega
                have w4 : ((k : Int) - 1).toNat = k - 1 := by omega
                have w7 : (1 : Int) ≤ (k : Int) := by omega
                have hhd : ∀ W, (Instr.slice 27 (.slice (some ⟨g, off, none⟩) k c') none (some (.int .i64 ((k : Int) - 1))) none).run Try.prog W = .ok (.slice (some ⟨g, off, none⟩) (k - 1) c') W := by
                  intro W
                  have := run_headW (some ⟨g, off, none⟩) k c' (k - 1) (by omega) hkc W
                  rw [show ((k - 1 : Nat) : Int) = (k : Int) - 1 by omega] at this
                  exact this
                go_wp2_with fail
                go_roundg (k - 1)
                case measure => omega
                case rel => exact ⟨m.take (k - 1), b + 1, xt, some ⟨g, off, none⟩, k - 1, rfl, by omega, by omega, Nat.le_refl _, by show _ = _; simp [HML.out], HT2, HLT3, RdK.set_ (RdK.take HR1.out _) HA.out _ _, HA, by show Blk _ _ _ _; simpa using Blk.put HX1.out 4 (.string ⟨xt.toArray⟩), Blk.far HY1.out (by show G + 1 ≠ G; omega) _, tch_set HB1.out (Nat.le_of_eq HG.out)⟩
              · have HEO : Hid (∀ u, e = u ++ [0] → (⟨2, 0, u⟩ : Val) ∉ l) := HT.out.end_out HLT2.out fun h0 => by rw [HLA.out h0]; exact hxe
                have w6 : (xt ++ [0] == e) = false := beq_eq_false_iff_ne.2 hxe
                go_wp2_with fail
                (refine hq_region mixedT (by kernel_rfl) ?_; (repeat (refine hq_step (fun K hK => ?_); go_simp; first | (refine hK _ ?_; clear hK K) | (apply Exists.intro; refine ⟨fun _ => ?_, hK _ ?_⟩; (fail); clear hK K))); refine hq_nil ?_; intro _ hw'; obtain ⟨⟨nq, osq⟩, hw''⟩ := hw'; subst hw'')
                have hgq : Grown wr (grow (wr.drewN nq) osq) := ⟨nq, osq, rfl⟩
                generalize grow (wr.drewN nq) osq = wq at *
                have HR1 := Lib.hid (HR.out.below hgq.below)
                have HX1 := Lib.hid (Blk.below HX.out hgq.below HX.out.lt)
                have HY1 := Lib.hid (Blk.below HY.out hgq.below HY.out.lt)
                have HB1 := Lib.hid (HB.out.trans (Tch.of_below hgq.below))
                clear HR HX HY HB hgq X3 X4 X5 hltX hltY C2 w1 w2' w3' w4 w5 w6 w7 w8 hadd wa wb
                have hltX := HX1.out.lt
                have hltY := HY1.out.lt
                obtain ⟨x0, x1, x2, x3, x4, x5, x6, p0, p1, p2, p3, p4, p5, p6⟩ := blk7 HX1.out
                obtain ⟨y0, y1, y2, y3, y4, y5, y6, q0, q1, q2, q3, q4, q5, q6⟩ := blk7 HY1.out
                go_wp2_with fail
                refine bodyPost_ret (v := spF 2 0 0 f e false (some ⟨g, off, none⟩) k c') (by simp [results, Try.results62, go_sem, y0, y1, y2, y3, y4, y5, y6]) rfl ?_
                refine ⟨⟨2, 0, 0, f, e, false, m⟩, some ⟨g, off, none⟩, k, c', rfl, HML.out, by omega, RdK.put7 (RdK.set_ HR1.out HA.out 6 _) (fun a ha => Nat.lt_succ_of_lt (HA.out a ha)) _ _ _ _ _ _ _, tch_put7 (tch_set HB1.out (Nat.le_of_eq HG.out)) (by have := HG.out; omega) _ _ _ _ _ _ _, ?_⟩
                rw [← HF.out]
                exact HT.out.done HFS.out (fun h => by simp at h) (fun _ => ⟨HTS2.out, HLT2.out, HEO.out⟩) HLO.out
    · have h0 : 0 < m.length := by rw [HML.out]; omega
      obtain ⟨g, off, rfl, hg, c0, c1, c2⟩ := RdW.at3 HR.out h0
      have hgG : g < G := HA.out _ rfl
      have hne3 : ¬ g = G := by omega
      obtain ⟨x, hx⟩ : ∃ x, m[0] = x := ⟨_, rfl⟩
      have HXX := Lib.hid hx
      rw [hx] at c0 c1 c2
      clear hx
      obtain ⟨xk, xi, xt⟩ := x
      rw [Nat.zero_mul, Nat.add_zero] at c2
      have C2 := fun n os => cell_grown (w := wr) (a := ⟨g, off + 2, none⟩) hg c2 n os
      clear c0 c1 c2
      have w5 : decide (0 < k) = true := decide_eq_true (by omega)
      have w6 : (0 : Int) < (k : Int) := by omega
      have w9 : 0 < k := by omega
      by_cases hxi : xt = f
      · subst hxi
        have HT2 : Hid (TT frm to o l (a + 1) 0 to (m.drop 1)) := HT.out.up h0 (by rw [HXX.out, HF.out])
        have HF2 : Hid (zs frm (a + 1) = xt ++ [0]) := by show _ = _; rw [zs_succ, HF.out]
        have hadd := ba_app0 xt
        go_wp2_with fail
        (refine hq_region mixedT (by kernel_rfl) ?_; (repeat (refine hq_step (fun K hK => ?_); go_simp; first | (refine hK _ ?_; clear hK K) | (apply Exists.intro; refine ⟨fun _ => ?_, hK _ ?_⟩; (fail); clear hK K))); refine hq_nil ?_; intro _ hw'; obtain ⟨⟨nq, osq⟩, hw''⟩ := hw'; subst hw'')
        have hgq : Grown wr (grow (wr.drewN nq) osq) := ⟨nq, osq, rfl⟩
        generalize grow (wr.drewN nq) osq = wq at *
        have HR1 := Lib.hid (HR.out.below hgq.below)
        have HX1 := Lib.hid (Blk.below HX.out hgq.below HX.out.lt)
        have HY1 := Lib.hid (Blk.below HY.out hgq.below HY.out.lt)
        have HB1 := Lib.hid (HB.out.trans (Tch.of_below hgq.below))
        clear HR HX HY HB hgq X3 X4 X5 hltX hltY C2 w5 w6 w9
        have hltX := HX1.out.lt
        have hltY := HY1.out.lt
        obtain ⟨x0, x1, x2, x3, x4, x5, x6, p0, p1, p2, p3, p4, p5, p6⟩ := blk7 HX1.out
        obtain ⟨y0, y1, y2, y3, y4, y5, y6, q0, q1, q2, q3, q4, q5, q6⟩ := blk7 HY1.out
        obtain ⟨B', hcut, hrc, hBB⟩ := run_cutB HR1.out HA.out HML.out (by omega) hkc
        have HRC := Lib.hid hrc
        have HBB := Lib.hid hBB
        clear hrc hBB
        go_wp2_with fail
        go_roundg (k - 1)
        case measure => omega
        case rel => exact ⟨m.drop 1, a + 1, xt ++ [0], B', k - 1, c' - 1, rfl, by omega, by omega, Nat.le_refl _, HF2, by show _ = _; simp [HML.out], HT2, RdK.set_ HRC.out HBB.out _ _, HBB, by show Blk _ _ _ _; simpa using Blk.put HX1.out 3 (.string ⟨(xt ++ [0]).toArray⟩), Blk.far HY1.out (by show G + 1 ≠ G; omega) _, tch_set HB1.out (Nat.le_of_eq HG.out)⟩
      · have HXO : Hid (∀ h0 : 0 < m.length, m[0].t ≠ zs frm a) := fun h0 => by rw [HXX.out, HF.out]; exact hxi
        have w7 : (xt == f) = false := beq_eq_false_iff_ne.2 hxi
        go_wp2_with fail
        (refine hq_region mixedT (by kernel_rfl) ?_; (repeat (refine hq_step (fun K hK => ?_); go_simp; first | (refine hK _ ?_; clear hK K) | (apply Exists.intro; refine ⟨fun _ => ?_, hK _ ?_⟩; (fail); clear hK K))); refine hq_nil ?_; intro _ hw'; obtain ⟨⟨nq, osq⟩, hw''⟩ := hw'; subst hw'')
        have hgq : Grown wr (grow (wr.drewN nq) osq) := ⟨nq, osq, rfl⟩
        generalize grow (wr.drewN nq) osq = wq at *
        have HR1 := Lib.hid (HR.out.below hgq.below)
        have HX1 := Lib.hid (Blk.below HX.out hgq.below HX.out.lt)
        have HY1 := Lib.hid (Blk.below HY.out hgq.below HY.out.lt)
        have HB1 := Lib.hid (HB.out.trans (Tch.of_below hgq.below))
        clear HR HX HY HB hgq X3 X4 X5 hltX hltY C2 w5 w6 w7 w9 hgG hg hne3 hxi HXX
        have hltX := HX1.out.lt
        have hltY := HY1.out.lt
        obtain ⟨x0, x1, x2, x3, x4, x5, x6, p0, p1, p2, p3, p4, p5, p6⟩ := blk7 HX1.out
        obtain ⟨y0, y1, y2, y3, y4, y5, y6, q0, q1, q2, q3, q4, q5, q6⟩ := blk7 HY1.out
        cases o with
        | true =>
          have HLO : Hid ((⟨2, 0, zs frm a⟩ : Val) ∉ l) := HT.out.low_out (.inl rfl) HXO.out
          have hto := HOT.out rfl
          subst hto
          go_wp2_with fail
          clear x0 x1 x2 x3 x4 x5 x6 p0 p1 p2 p3 p4 p5 p6 y0 y1 y2 y3 y4 y5 y6 q0 q1 q2 q3 q4 q5 q6
          go_loopg [3] 0 (fun gg s3 wr => s3 = .slice (some ⟨g, off, none⟩) k c' ∧ Hid (RdW wr (some ⟨g, off, none⟩) m) ∧ Hid (Blk wr G 29 #[.int .i64 2, .int .i64 0, .int .i64 0, .string ⟨f.toArray⟩, .string ⟨([] : List UInt8).toArray⟩, .bool true, .slice A n c]) ∧ Hid (Blk wr (G + 1) 29 #[.int .i64 0, .int .i64 0, .int .i64 0, .string ⟨#[]⟩, .string ⟨#[]⟩, .bool false, .slice none 0 0]) ∧ Hid (Tch A w wr))
          case atStart => exact ⟨rfl, HR1, HX1, HY1, HB1⟩
          case round =>
            obtain ⟨rfl, HR, HX, HY, HB⟩ := hrel
            clear HR1 HX1 HY1 HB1
            have hltX := HX.out.lt
            have hltY := HY.out.lt
            have X3 := fun n os => cell_grown (w := wr) (a := ⟨G, 3, none⟩) hltX (HX.out.cell 3) n os
            have X4 := fun n os => cell_grown (w := wr) (a := ⟨G, 4, none⟩) hltX (HX.out.cell 4) n os
            have X5 := fun n os => cell_grown (w := wr) (a := ⟨G, 5, none⟩) hltX (HX.out.cell 5) n os
            simp at X3 X4 X5
            go_wp2_with fail
            (refine hq_region mixedT (by kernel_rfl) ?_; (repeat (refine hq_step (fun K hK => ?_); go_simp; first | (refine hK _ ?_; clear hK K) | (apply Exists.intro; refine ⟨fun _ => ?_, hK _ ?_⟩; (fail); clear hK K))); refine hq_nil ?_; intro _ hw'; obtain ⟨⟨nq, osq⟩, hw''⟩ := hw'; subst hw'')
            have hgq : Grown wr (grow (wr.drewN nq) osq) := ⟨nq, osq, rfl⟩
            generalize grow (wr.drewN nq) osq = wq at *
            have HR1 := Lib.hid (HR.out.below hgq.below)
            have HX1 := Lib.hid (Blk.below HX.out hgq.below HX.out.lt)
            have HY1 := Lib.hid (Blk.below HY.out hgq.below HY.out.lt)
            have HB1 := Lib.hid (HB.out.trans (Tch.of_below hgq.below))
            clear HR HX HY HB hgq X3 X4 X5 hltX hltY 
            have hltX := HX1.out.lt
            have hltY := HY1.out.lt
            obtain ⟨x0, x1, x2, x3, x4, x5, x6, p0, p1, p2, p3, p4, p5, p6⟩ := blk7 HX1.out
            obtain ⟨y0, y1, y2, y3, y4, y5, y6, q0, q1, q2, q3, q4, q5, q6⟩ := blk7 HY1.out
            go_wp2_with fail
            refine bodyPost_ret (v := spF 2 0 0 f [] true (some ⟨g, off, none⟩) k c') (by simp [results, Try.results62, go_sem, y0, y1, y2, y3, y4, y5, y6]) rfl ?_
            refine ⟨⟨2, 0, 0, f, [], true, m⟩, some ⟨g, off, none⟩, k, c', rfl, HML.out, by omega, RdK.put7 (RdK.set_ HR1.out HA.out 6 _) (fun a ha => Nat.lt_succ_of_lt (HA.out a ha)) _ _ _ _ _ _ _, tch_put7 (tch_set HB1.out (Nat.le_of_eq HG.out)) (by have := HG.out; omega) _ _ _ _ _ _ _, ?_⟩
            rw [← HF.out]
            exact HT.out.done HFS.out (fun _ => rfl) (fun h => by simp at h) HLO.out
        | false =>
          have HTS2 : Hid (Short to) := HTS.out rfl
          clear HTS HOT
          cases hlt : bytesLess f to with
          | false =>
            have HNO : Hid (IsTexts frm to false l none_) := HT.out.none_ (by rw [HF.out]; exact hlt)
            go_wp2_with fail
            refine bodyPost_ret (v := spF 0 0 0 [] [] false none 0 0) (by simp [results, Try.results62, go_sem, y0, y1, y2, y3, y4, y5, y6]) rfl ?_
            exact ⟨none_, none, 0, 0, rfl, rfl, Nat.zero_le _, .inl rfl, tch_put7 HB1.out (by have := HG.out; omega) _ _ _ _ _ _ _, HNO.out⟩
          | true =>
            have HLO : Hid ((⟨2, 0, zs frm a⟩ : Val) ∉ l) := HT.out.low_out (.inr (by rw [HF.out]; exact hlt)) HXO.out
            have HLT : Hid (bytesLess (zs frm a) to = true) := by show _ = _; rw [HF.out]; exact hlt
            go_wp2_with fail
            clear hlt x0 x1 x2 x3 x4 x5 x6 p0 p1 p2 p3 p4 p5 p6 y0 y1 y2 y3 y4 y5 y6 q0 q1 q2 q3 q4 q5 q6
            go_loopg [3] k (fun gg s3 wr => ∃ (m : List Val) (b : Nat) (e : List UInt8) (A' : Option Addr) (k' : Nat), s3 = .slice A' k' c' ∧ k' ≤ c' ∧ k' ≤ n3 ∧ k' ≤ gg ∧ Hid (m.length = k') ∧ Hid (TT frm to false l a b e m) ∧ Hid (bytesLess (zs frm a) e = true) ∧ Hid (RdW wr A' m) ∧ Hid (∀ a, A' = some a → a.block < G) ∧ Hid (Blk wr G 29 #[.int .i64 2, .int .i64 0, .int .i64 0, .string ⟨f.toArray⟩, .string ⟨e.toArray⟩, .bool false, .slice A n c]) ∧ Hid (Blk wr (G + 1) 29 #[.int .i64 0, .int .i64 0, .int .i64 0, .string ⟨#[]⟩, .string ⟨#[]⟩, .bool false, .slice none 0 0]) ∧ Hid (Tch A w wr))
            case atStart => exact ⟨m, 0, to, some ⟨g, off, none⟩, k, rfl, hkc, hkn, Nat.le_refl _, HML, HT, HLT, HR1, HA, HX1, HY1, HB1⟩
            case round =>
              obtain ⟨m, b, e, A', k, rfl, hkc, hkn, hkg, HML, HT, HLT2, HR, HA, HX, HY, HB⟩ := hrel
              clear HR1 HX1 HY1 HB1
              have hltX := HX.out.lt
              have hltY := HY.out.lt
              have X3 := fun n os => cell_grown (w := wr) (a := ⟨G, 3, none⟩) hltX (HX.out.cell 3) n os
              have X4 := fun n os => cell_grown (w := wr) (a := ⟨G, 4, none⟩) hltX (HX.out.cell 4) n os
              have X5 := fun n os => cell_grown (w := wr) (a := ⟨G, 5, none⟩) hltX (HX.out.cell 5) n os
              simp at X3 X4 X5
              by_cases hk0 : k = 0
              · have HEO : Hid (∀ u, e = u ++ [0] → (⟨2, 0, u⟩ : Val) ∉ l) := HT.out.end_out HLT2.out fun h0 => by have := HML.out; omega
                have w5 : decide (0 < k) = false := decide_eq_false (by omega)
                clear hk0
                go_wp2_with fail
                (refine hq_region mixedT (by kernel_rfl) ?_; (repeat (refine hq_step (fun K hK => ?_); go_simp; first | (refine hK _ ?_; clear hK K) | (apply Exists.intro; refine ⟨fun _ => ?_, hK _ ?_⟩; (fail); clear hK K))); refine hq_nil ?_; intro _ hw'; obtain ⟨⟨nq, osq⟩, hw''⟩ := hw'; subst hw'')
                have hgq : Grown wr (grow (wr.drewN nq) osq) := ⟨nq, osq, rfl⟩
                generalize grow (wr.drewN nq) osq = wq at *
                have HR1 := Lib.hid (HR.out.below hgq.below)
                have HX1 := Lib.hid (Blk.below HX.out hgq.below HX.out.lt)
                have HY1 := Lib.hid (Blk.below HY.out hgq.below HY.out.lt)
                have HB1 := Lib.hid (HB.out.trans (Tch.of_below hgq.below))
                clear HR HX HY HB hgq X3 X4 X5 hltX hltY w5
                have hltX := HX1.out.lt
                have hltY := HY1.out.lt
                obtain ⟨x0, x1, x2, x3, x4, x5, x6, p0, p1, p2, p3, p4, p5, p6⟩ := blk7 HX1.out
                obtain ⟨y0, y1, y2, y3, y4, y5, y6, q0, q1, q2, q3, q4, q5, q6⟩ := blk7 HY1.out
                go_wp2_with fail
                refine bodyPost_ret (v := spF 2 0 0 f e false (A') k c') (by simp [results, Try.results62, go_sem, y0, y1, y2, y3, y4, y5, y6]) rfl ?_
                refine ⟨⟨2, 0, 0, f, e, false, m⟩, A', k, c', rfl, HML.out, by omega, RdK.put7 (RdK.set_ HR1.out HA.out 6 _) (fun a ha => Nat.lt_succ_of_lt (HA.out a ha)) _ _ _ _ _ _ _, tch_put7 (tch_set HB1.out (Nat.le_of_eq HG.out)) (by have := HG.out; omega) _ _ _ _ _ _ _, ?_⟩
                rw [← HF.out]
                exact HT.out.done HFS.out (fun h => by simp at h) (fun _ => ⟨HTS2.out, HLT2.out, HEO.out⟩) HLO.out
              · have hk1 : k - 1 < m.length := by rw [HML.out]; omega
                obtain ⟨g, off, rfl, hg, c0, c1, c2⟩ := RdW.at3 HR.out hk1
                have hgG : g < G := HA.out _ rfl
                have hne3 : ¬ g = G := by omega
                have hxm : m[k - 1] ∈ l := ((HT.out.mem _).1 (List.getElem_mem hk1)).1
                have hxl := (HLL.out _ hxm).2.2
                obtain ⟨x, hx⟩ : ∃ x, m[k - 1] = x := ⟨_, rfl⟩
                have HXX := Lib.hid hx
                rw [hx] at c0 c1 c2 hxl
                clear hx hxm
                obtain ⟨xk, xi, xt⟩ := x
                have hxl2 : xt.length ≤ 32 := hxl
                clear hxl
                have hadd := ba_app0 xt
                have wa : ¬ 9223372036854775807 < xt.length + 1 := by omega
                have wb : xt.length + 1 ≤ 9223372036854775807 := by omega
                have C2 := fun n os => cell_grown (w := wr) (a := ⟨g, off + (k - 1) * 3 + 2, none⟩) hg c2 n os
                clear c0 c1 c2
                have w1 : IntKind.i64.wrap ((k : Int) - 1) = (k : Int) - 1 := by rw [IntKind.wrap_i64]; omega
                have w2' : (0 : Int) ≤ (k : Int) - 1 := by omega
                have w3' : (k : Int) - 1 < (k : Int) := by omega
                have w4 : ((k : Int) - 1).toNat = k - 1 := by omega
                have w7 : (1 : Int) ≤ (k : Int) := by omega
                have w8 : 0 < k := by omega
                have w5 : decide (0 < k) = true := decide_eq_true (by omega)
                have hlast : ∀ h0 : 0 < m.length, m[m.length - 1] = ⟨xk, xi, xt⟩ := fun h0 => by
                  have e : m.length - 1 = k - 1 := by rw [HML.out]
                  simp only [e]
                  exact HXX.out
                have HLA := Lib.hid hlast
                clear hlast
                by_cases hxe : xt ++ [0] = e
                · have HT2 : Hid (TT frm to false l a (b + 1) xt (m.take (k - 1))) := by
                    have h0 : 0 < m.length := by omega
                    have := HT.out.down h0 (by rw [HLA.out h0]; exact hxe)
                    rw [HLA.out h0, HML.out] at this
                    exact this
                  have HLT3 : Hid (bytesLess (zs frm a) xt = true) := by
                    have h0 : 0 < m.length := by omega
                    have := HT.out.lt_down HLO.out h0
                    rw [HLA.out h0] at this
                    exact this
                  subst hxe
                  go_wp2_with fail
                  (refine hq_region mixedT (by kernel_rfl) ?_; (repeat (refine hq_step (fun K hK => ?_); go_simp; first | (refine hK _ ?_; clear hK K) | (apply Exists.intro; refine ⟨fun _ => ?_, hK _ ?_⟩; (fail); clear hK K))); refine hq_nil ?_; intro _ hw'; obtain ⟨⟨nq, osq⟩, hw''⟩ := hw'; subst hw'')
                  have hgq : Grown wr (grow (wr.drewN nq) osq) := ⟨nq, osq, rfl⟩
                  generalize grow (wr.drewN nq) osq = wq at *
                  have HR1 := Lib.hid (HR.out.below hgq.below)
                  have HX1 := Lib.hid (Blk.below HX.out hgq.below HX.out.lt)
                  have HY1 := Lib.hid (Blk.below HY.out hgq.below HY.out.lt)
                  have HB1 := Lib.hid (HB.out.trans (Tch.of_below hgq.below))
                  clear HR HX HY HB hgq X3 X4 X5 hltX hltY C2 w2' w3' w4 w5 w7 hadd wa wb
                  have hltX := HX1.out.lt
                  have hltY := HY1.out.lt
                  obtain ⟨x0, x1, x2, x3, x4, x5, x6, p0, p1, p2, p3, p4, p5, p6⟩ := blk7 HX1.out
                  obtain ⟨y0, y1, y2, y3, y4, y5, y6, q0, q1, q2, q3, q4, q5, q6⟩ := blk7 HY1.out
                  have hc2 := (RdW.at3 HR1.out hk1)
                  obtain ⟨g', off', e', hg', d0, d1, d2⟩ := hc2
                  injection e' with e'
                  injection e' with e1 e2
                  subst e1; subst e2
                  rw [HXX.out] at d0 d1 d2
                  have w2' : (0 : Int) ≤ (k : Int) - 1 := by omega
                  have w3' : (k : Int) - 1 < (k : Int) := by omega
                  have w4 : ((k : Int) - 1).toNat = k - 1 := by omega
                  have w7 : (1 : Int) ≤ (k : Int) := by omega
                  have hhd : ∀ W, (Instr.slice 27 (.slice (some ⟨g, off, none⟩) k c') none (some (.int .i64 ((k : Int) - 1))) none).run Try.prog W = .ok (.slice (some ⟨g, off, none⟩) (k - 1) c') W := by
                    intro W
                    have := run_headW (some ⟨g, off, none⟩) k c' (k - 1) (by omega) hkc W
                    rw [show ((k - 1 : Nat) : Int) = (k : Int) - 1 by omega] at this
                    exact this
                  go_wp2_with fail
                  go_roundg (k - 1)
                  case measure => omega
                  case rel => exact ⟨m.take (k - 1), b + 1, xt, some ⟨g, off, none⟩, k - 1, rfl, by omega, by omega, Nat.le_refl _, by show _ = _; simp [HML.out], HT2, HLT3, RdK.set_ (RdK.take HR1.out _) HA.out _ _, HA, by show Blk _ _ _ _; simpa using Blk.put HX1.out 4 (.string ⟨xt.toArray⟩), Blk.far HY1.out (by show G + 1 ≠ G; omega) _, tch_set HB1.out (Nat.le_of_eq HG.out)⟩
                · have HEO : Hid (∀ u, e = u ++ [0] → (⟨2, 0, u⟩ : Val) ∉ l) := HT.out.end_out HLT2.out fun h0 => by rw [HLA.out h0]; exact hxe
                  have w6 : (xt ++ [0] == e) = false := beq_eq_false_iff_ne.2 hxe
                  go_wp2_with fail
                  (refine hq_region mixedT (by kernel_rfl) ?_; (repeat (refine hq_step (fun K hK => ?_); go_simp; first | (refine hK _ ?_; clear hK K) | (apply Exists.intro; refine ⟨fun _ => ?_, hK _ ?_⟩; (fail); clear hK K))); refine hq_nil ?_; intro _ hw'; obtain ⟨⟨nq, osq⟩, hw''⟩ := hw'; subst hw'')
                  have hgq : Grown wr (grow (wr.drewN nq) osq) := ⟨nq, osq, rfl⟩
                  generalize grow (wr.drewN nq) osq = wq at *
                  have HR1 := Lib.hid (HR.out.below hgq.below)
                  have HX1 := Lib.hid (Blk.below HX.out hgq.below HX.out.lt)
                  have HY1 := Lib.hid (Blk.below HY.out hgq.below HY.out.lt)
                  have HB1 := Lib.hid (HB.out.trans (Tch.of_below hgq.below))
                  clear HR HX HY HB hgq X3 X4 X5 hltX hltY C2 w1 w2' w3' w4 w5 w6 w7 w8 hadd wa wb
                  have hltX := HX1.out.lt
                  have hltY := HY1.out.lt
                  obtain ⟨x0, x1, x2, x3, x4, x5, x6, p0, p1, p2, p3, p4, p5, p6⟩ := blk7 HX1.out
                  obtain ⟨y0, y1, y2, y3, y4, y5, y6, q0, q1, q2, q3, q4, q5, q6⟩ := blk7 HY1.out
                  go_wp2_with fail
                  refine bodyPost_ret (v := spF 2 0 0 f e false (some ⟨g, off, none⟩) k c') (by simp [results, Try.results62, go_sem, y0, y1, y2, y3, y4, y5, y6]) rfl ?_
                  refine ⟨⟨2, 0, 0, f, e, false, m⟩, some ⟨g, off, none⟩, k, c', rfl, HML.out, by omega, RdK.put7 (RdK.set_ HR1.out HA.out 6 _) (fun a ha => Nat.lt_succ_of_lt (HA.out a ha)) _ _ _ _ _ _ _, tch_put7 (tch_set HB1.out (Nat.le_of_eq HG.out)) (by have := HG.out; omega) _ _ _ _ _ _ _, ?_⟩
                  rw [← HF.out]
                  exact HT.out.done HFS.out (fun h => by simp at h) (fun _ => ⟨HTS2.out, HLT2.out, HEO.out⟩) HLO.out
end Go.Proofs.Ytcgmbgfbhdimeaa
