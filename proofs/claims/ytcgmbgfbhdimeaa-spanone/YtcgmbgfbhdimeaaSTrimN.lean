/- Package span: trimNumbers. -/
import Derived.Test.YtcgmbgfbhdimeaaSOwn
namespace Go.Proofs.Ytcgmbgfbhdimeaa
open Go.RowKit Go.Sort Spans Op
theorem cell_of_block {w w' : World} {p : Addr} (h : w'.heap[p.block]? = w.heap[p.block]?) : w'.cell? p = w.cell? p := by unfold World.cell?; rw [h]
theorem RdK.of_block {α : Type} {L : Lay α} {w w' : World} {A : Option Addr} {es : List α} (h : RdK L w A es) (hs : w.heap.size ≤ w'.heap.size) (hb : ∀ a, A = some a → w'.heap[a.block]? = w.heap[a.block]?) : RdK L w' A es := by
  rcases h with rfl | ⟨g, off, rfl, hg, hc⟩
  · exact .inl rfl
  · exact .inr ⟨g, off, rfl, Nat.lt_of_lt_of_le hg hs, fun i hi j v hv => (cell_of_block (p := ⟨g, off + i * L.k + j, none⟩) (hb ⟨g, off, none⟩ rfl)).trans (hc i hi j v hv)⟩
theorem RdK.set_ {α : Type} {L : Lay α} {w : World} {A : Option Addr} {es : List α} (h : RdK L w A es) {b : Nat} (hA : ∀ a, A = some a → a.block < b) (i : Nat) (u : Value) : RdK L (w.setCell ⟨b, i, none⟩ u) A es :=
  h.of_block (by simp) fun a ha => heap_setCell_other w ⟨b, i, none⟩ a.block u (by have := hA a ha; show a.block ≠ b; omega)
theorem RdK.put7 {α : Type} {L : Lay α} {w : World} {A : Option Addr} {es : List α} (h : RdK L w A es) {b : Nat} (hA : ∀ a, A = some a → a.block < b) (u0 u1 u2 u3 u4 u5 u6 : Value) :
    RdK L (((((((w.setCell ⟨b, 0, none⟩ u0).setCell ⟨b, 1, none⟩ u1).setCell ⟨b, 2, none⟩ u2).setCell ⟨b, 3, none⟩ u3).setCell ⟨b, 4, none⟩ u4).setCell ⟨b, 5, none⟩ u5).setCell ⟨b, 6, none⟩ u6) A es :=
  ((((((h.set_ hA 0 u0).set_ hA 1 u1).set_ hA 2 u2).set_ hA 3 u3).set_ hA 4 u4).set_ hA 5 u5).set_ hA 6 u6
/-- A cut off the front, and where it leads. -/
theorem run_cutB {w : World} {A : Option Addr} {es : List Val} {n cap : Nat} {B : Nat} (hr : RdW w A es) (hA : ∀ a, A = some a → a.block < B) (hn : es.length = n) (hk : 1 ≤ n) (hc : n ≤ cap) :
    ∃ A', (∀ W, (Instr.slice 27 (.slice A n cap) (some (.int .i64 1)) none none).run Try.prog W = .ok (.slice A' (n - 1) (cap - 1)) W) ∧ RdW w A' (es.drop 1) ∧ ∀ a, A' = some a → a.block < B := by
  rcases hr with rfl | ⟨g, off, rfl, hg, hcell⟩
  · simp at hn; omega
  · by_cases hck : cap = 1
    · refine ⟨some ⟨g, off, none⟩, fun W => ?_, .inl (List.drop_eq_nil_of_le (by omega)), hA⟩
      have h1 : (0 : Int) ≤ (1 : Int) := by omega
      have h2 : (1 : Int) ≤ (n : Int) := by omega
      subst hck
      go_simp
    · refine ⟨some ⟨g, off + 3, none⟩, fun W => ?_, .inr ⟨g, off + 3, rfl, hg, fun i hi j v hv => ?_⟩, fun a ha => ?_⟩
      · have h1 : (0 : Int) ≤ (1 : Int) := by omega
        have h2 : (1 : Int) ≤ (n : Int) := by omega
        go_simp
      · have hi' : 1 + i < es.length := by simp at hi; omega
        rw [List.getElem_drop] at hv
        have := hcell (1 + i) hi' j v hv
        rw [show off + (1 + i) * layV.k + j = off + 3 + i * layV.k + j by show off + (1 + i) * 3 + j = off + 3 + i * 3 + j; omega] at this
        exact this
      · injection ha with ha
        subst ha
        exact hA ⟨g, off, none⟩ rfl
theorem Tch.cell {A : Option Addr} {w w' : World} {p : Addr} (h : Tch A w w') (hg : p.block < w.heap.size) (hne : ∀ a, A = some a → a.block < p.block) : w'.cell? p = w.cell? p :=
  cell_of_block (World.grownBy.block h p.block hg (by
    cases A with
    | none => simp
    | some a => have := hne a rfl; simp; omega))
theorem boxN_tch {A : Option Addr} {G : Nat} {lo hi : Int} (hA : ∀ a, A = some a → a.block < G) : ∀ W W', BoxN G lo hi W → Tch A W W' → BoxN G lo hi W' :=
  fun _ _ ⟨h0, h1, h2⟩ hT => ⟨Nat.lt_of_lt_of_le h0 hT.size, (hT.cell (p := ⟨G, 1, none⟩) h0 hA).trans h1, (hT.cell (p := ⟨G, 2, none⟩) h0 hA).trans h2⟩
theorem tch_set {A : Option Addr} {w w' : World} {b i : Nat} {u : Value} (h : Tch A w w') (hb : w.heap.size ≤ b) : Tch A w (w'.setCell ⟨b, i, none⟩ u) :=
  ⟨h.os, h.tape, h.output, by simpa using h.size, fun k hk hne => (heap_setCell_other w' ⟨b, i, none⟩ k u (by show k ≠ b; omega)).trans (World.grownBy.block h k hk hne)⟩
theorem tch_put7 {A : Option Addr} {w0 w : World} {b : Nat} (h : Tch A w0 w) (hb : w0.heap.size ≤ b) (u0 u1 u2 u3 u4 u5 u6 : Value) :
    Tch A w0 (((((((w.setCell ⟨b, 0, none⟩ u0).setCell ⟨b, 1, none⟩ u1).setCell ⟨b, 2, none⟩ u2).setCell ⟨b, 3, none⟩ u3).setCell ⟨b, 4, none⟩ u4).setCell ⟨b, 5, none⟩ u5).setCell ⟨b, 6, none⟩ u6) :=
  tch_set (tch_set (tch_set (tch_set (tch_set (tch_set (tch_set h hb) hb) hb) hb) hb) hb) hb
/-- What trimming tells: a span whose row lies somewhere. -/
def Trims (P : Sp → Prop) (A : Option Addr) (n : Nat) (w : World) (e : Ending) (w' : World) : Prop :=
  ∃ r A' n' c', e = .returned (spF r.kind r.lo r.hi r.frm r.to_ r.opn A' n' c') ∧ r.no.length = n' ∧ n' ≤ n ∧ RdW w' A' r.no ∧ Tch A w w' ∧ P r
set_option maxRecDepth 100000 in
set_option maxHeartbeats 4000000 in
theorem trimNum_at (K lo hi : Int) (A : Option Addr) (n c : Nat) (w : World) (base : Nat) (l : List Val) (hk : K = 1 ∨ K = 3) (hlow : lowest K ≤ lo) (hhigh : hi ≤ highest K) (hn : l.length = n) (hm : n ≤ 100000)
    (hl : ∀ v ∈ l, v.k = K ∧ v.t = []) (hr : RiseV l) (ho : OwnW w base (.slice A n c) l) :
    Calls Try.prog 61 #[spF K lo hi [] [] false A n c] w (Trims (IsInts K lo hi l) A n w) := by
  have hlo64 : -9223372036854775808 ≤ lo := by
    have h : -9223372036854775808 ≤ lowest K := by unfold lowest; split <;> omega
    omega
  have hhi64 : hi ≤ 9223372036854775807 := by
    have h : highest K ≤ 9223372036854775807 := by unfold highest; split <;> omega
    omega
  have HN := Lib.hid hn
  have HK := Lib.hid hk
  have HLo := Lib.hid hlow
  have HHi := Lib.hid hhigh
  clear hn hk hlow hhigh
  by_cases hlh : hi < lo
  · go_enter Try.func61, Try.ntmps61
    go_wp2_with fail
    refine bodyPost_ret (v := spF 0 0 0 [] [] false none 0 0) (by simp [results, Try.results61, go_sem]) rfl ?_
    exact ⟨none_, none, 0, 0, rfl, rfl, Nat.zero_le _, .inl rfl, Tch.of_below (gr2 _ _ _).below, ints_none HK.out fun x h1 h2 => by omega⟩
  have hlh' : lo ≤ hi := by omega
  have hgr := gr2 w (.cells #[.int .i64 K, .int .i64 lo, .int .i64 hi, .string ⟨#[]⟩, .string ⟨#[]⟩, .bool false, .slice A n c] 29) (.cells #[.int .i64 0, .int .i64 0, .int .i64 0, .string ⟨#[]⟩, .string ⟨#[]⟩, .bool false, .slice none 0 0] 29)
  have hbx := (Blk.new w 29 #[.int .i64 K, .int .i64 lo, .int .i64 hi, .string ⟨#[]⟩, .string ⟨#[]⟩, .bool false, .slice A n c]).alloc (.cells #[.int .i64 0, .int .i64 0, .int .i64 0, .string ⟨#[]⟩, .string ⟨#[]⟩, .bool false, .slice none 0 0] 29)
  have hrs := Blk.new (w.alloc (.cells #[.int .i64 K, .int .i64 lo, .int .i64 hi, .string ⟨#[]⟩, .string ⟨#[]⟩, .bool false, .slice A n c] 29)) 29 #[.int .i64 0, .int .i64 0, .int .i64 0, .string ⟨#[]⟩, .string ⟨#[]⟩, .bool false, .slice none 0 0]
  rw [show (w.alloc (.cells #[.int .i64 K, .int .i64 lo, .int .i64 hi, .string ⟨#[]⟩, .string ⟨#[]⟩, .bool false, .slice A n c] 29)).heap.size = w.heap.size + 1 by simp] at hrs
  have hA0 := fun a ha => (own_addr ho a ha).2
  have ho2 := OwnK.below ho hgr.below
  have eg : ∀ args w, (callFunc 77 args).run Try.prog w = .ok (.enter 77 args) w := enters_of Try.func77 (by kernel_rfl) rfl
  have hbN : BoxN w.heap.size lo hi ((w.alloc (.cells #[.int .i64 K, .int .i64 lo, .int .i64 hi, .string ⟨#[]⟩, .string ⟨#[]⟩, .bool false, .slice A n c] 29)).alloc (.cells #[.int .i64 0, .int .i64 0, .int .i64 0, .string ⟨#[]⟩, .string ⟨#[]⟩, .bool false, .slice none 0 0] 29)) := ⟨hbx.lt, hbx.cell 1, hbx.cell 2⟩
  have hsz : ((w.alloc (.cells #[.int .i64 K, .int .i64 lo, .int .i64 hi, .string ⟨#[]⟩, .string ⟨#[]⟩, .bool false, .slice A n c] 29)).alloc (.cells #[.int .i64 0, .int .i64 0, .int .i64 0, .string ⟨#[]⟩, .string ⟨#[]⟩, .bool false, .slice none 0 0] 29)).heap.size = w.heap.size + 2 := by simp
  have hB2 : Tch A w ((w.alloc (.cells #[.int .i64 K, .int .i64 lo, .int .i64 hi, .string ⟨#[]⟩, .string ⟨#[]⟩, .bool false, .slice A n c] 29)).alloc (.cells #[.int .i64 0, .int .i64 0, .int .i64 0, .string ⟨#[]⟩, .string ⟨#[]⟩, .bool false, .slice none 0 0] 29)) := Tch.of_below hgr.below
  have hdel := deleteV_own (BoxN w.heap.size lo hi) 77 #[.pointer (some ⟨w.heap.size, 0, none⟩)] (outN lo hi) (predN_at w.heap.size lo hi) eg HN.out hm ho2 hbN (boxN_tch hA0)
  clear ho ho2 hbN eg
  go_enter Try.func61, Try.ntmps61
  go_wp2_with fail
  generalize hw2 : (w.alloc (.cells #[.int .i64 K, .int .i64 lo, .int .i64 hi, .string ⟨#[]⟩, .string ⟨#[]⟩, .bool false, .slice A n c] 29)).alloc (.cells #[.int .i64 0, .int .i64 0, .int .i64 0, .string ⟨#[]⟩, .string ⟨#[]⟩, .bool false, .slice none 0 0] 29) = w2 at *
  clear hw2
  refine hdel.mono ?_
  rintro e w3 ⟨n3, rfl, hl3, hn3, ho3, ht3⟩
  clear hdel
  have HTN := Lib.hid (TN.start hl hr hlh' (outN lo hi) (fun _ => rfl))
  have HB3 := Lib.hid (hB2.trans ht3)
  have HX3 := Lib.hid (ht3.blk hbx hA0)
  have HY3 := Lib.hid (ht3.blk hrs fun a ha => Nat.lt_succ_of_lt (hA0 a ha))
  have HR3 := Lib.hid (Gives.rd ho3)
  have HL3 := Lib.hid hl3
  have HA0 := Lib.hid hA0
  have hc3 : n3 ≤ c := by
    obtain ⟨_, _, e, h, _⟩ := OwnK.rd ho3
    injection e with e1 e2 e3
    omega
  clear hl hr hgr hbx hrs hA0 hB2 ho3 ht3 hl3
  generalize (l.filter fun v => !outN lo hi v) = m3 at *
  generalize hG : w.heap.size = G at *
  have HG := Lib.hid hG
  clear hG hsz
  go_wp2_with fail
  go_loopg [3] n3 (fun gg s3 wr => ∃ (m : List Val) (lo' : Int) (A' : Option Addr) (k c' : Nat), s3 = .slice A' k c' ∧ k ≤ c' ∧ k ≤ n3 ∧ k ≤ gg ∧ lo ≤ lo' ∧ lo' ≤ hi ∧ Hid (m.length = k) ∧ Hid (TN K lo hi l lo' hi m) ∧ Hid (RdW wr A' m) ∧ Hid (∀ a, A' = some a → a.block < G) ∧ Hid (Blk wr G 29 #[.int .i64 K, .int .i64 lo', .int .i64 hi, .string ⟨#[]⟩, .string ⟨#[]⟩, .bool false, .slice A n c]) ∧ Hid (Blk wr (G + 1) 29 #[.int .i64 0, .int .i64 0, .int .i64 0, .string ⟨#[]⟩, .string ⟨#[]⟩, .bool false, .slice none 0 0]) ∧ Hid (Tch A w wr))
  case atStart => exact ⟨m3, lo, A, n3, c, rfl, hc3, Nat.le_refl _, Nat.le_refl _, Int.le_refl _, hlh', HL3, HTN, HR3, HA0, HX3, HY3, HB3⟩
  case round =>
    obtain ⟨m, lo', A', k, c', rfl, hkc, hkn, hkg, hll, hlr, HML, HT, HR, HA, HX, HY, HB⟩ := hrel
    clear HTN HB3 HX3 HY3 HR3 HL3 HA0
    have hltX := HX.out.lt
    have hltY := HY.out.lt
    have hne1 : ¬ G = G + 1 := by omega
    have hne2 : ¬ G + 1 = G := by omega
    have X1 := fun n os => cell_grown (w := wr) (a := ⟨G, 1, none⟩) hltX (HX.out.cell 1) n os
    have X2 := fun n os => cell_grown (w := wr) (a := ⟨G, 2, none⟩) hltX (HX.out.cell 2) n os
    simp at X1 X2
    by_cases hk0 : k = 0
    · have HLO : Hid ((⟨K, lo', []⟩ : Val) ∉ l) := HT.out.low_out fun h0 => by have := HML.out; omega
      have w5 : decide (0 < k) = false := decide_eq_false (by omega)
      clear hk0
      go_wp2_with fail
      (refine hq_region mixedT (by kernel_rfl) ?_; (repeat (refine hq_step (fun K hK => ?_); go_simp; first | (refine hK _ ?_; clear hK K) | (apply Exists.intro; refine ⟨fun _ => ?_, hK _ ?_⟩; (fail); clear hK K))); refine hq_nil ?_; intro _ hw'; obtain ⟨⟨nq, osq⟩, hw''⟩ := hw'; subst hw'')
      have hgq : Grown wr (grow (wr.drewN nq) osq) := ⟨nq, osq, rfl⟩
      generalize grow (wr.drewN nq) osq = wq at *
      have HR1 := Lib.hid (HR.out.below hgq.below)
      have HX1 := Lib.hid (Blk.below HX.out hgq.below HX.out.lt)
      have HY1 := Lib.hid (Blk.below HY.out hgq.below HY.out.lt)
      have HB1 := Lib.hid (HB.out.trans (Tch.of_below hgq.below))
      clear HR HX HY HB hgq X1 X2 hltX hltY w5
      go_wp2_with fail
      go_loopg [3] k (fun gg s3 wr => ∃ (m : List Val) (hi' : Int) (A' : Option Addr) (k' : Nat), s3 = .slice A' k' c' ∧ k' ≤ c' ∧ k' ≤ n3 ∧ k' ≤ gg ∧ lo' ≤ hi' ∧ hi' ≤ hi ∧ Hid (m.length = k') ∧ Hid (TN K lo hi l lo' hi' m) ∧ Hid (RdW wr A' m) ∧ Hid (∀ a, A' = some a → a.block < G) ∧ Hid (Blk wr G 29 #[.int .i64 K, .int .i64 lo', .int .i64 hi', .string ⟨#[]⟩, .string ⟨#[]⟩, .bool false, .slice A n c]) ∧ Hid (Blk wr (G + 1) 29 #[.int .i64 0, .int .i64 0, .int .i64 0, .string ⟨#[]⟩, .string ⟨#[]⟩, .bool false, .slice none 0 0]) ∧ Hid (Tch A w wr))
      case atStart => exact ⟨m, hi, A', k, rfl, hkc, hkn, Nat.le_refl _, hlr, Int.le_refl _, HML, HT, HR1, HA, HX1, HY1, HB1⟩
      case round =>
        obtain ⟨m, hi', A', k, rfl, hkc, hkn, hkg, hll2, hlr2, HML, HT, HR, HA, HX, HY, HB⟩ := hrel
        clear HR1 HX1 HY1 HB1
        have hltX := HX.out.lt
        have hltY := HY.out.lt
        have X1 := fun n os => cell_grown (w := wr) (a := ⟨G, 1, none⟩) hltX (HX.out.cell 1) n os
        have X2 := fun n os => cell_grown (w := wr) (a := ⟨G, 2, none⟩) hltX (HX.out.cell 2) n os
        simp at X1 X2
        by_cases hk0 : k = 0
        · have HHO : Hid ((⟨K, hi', []⟩ : Val) ∉ l) := HT.out.high_out fun h0 => by have := HML.out; omega
          have w5 : decide (0 < k) = false := decide_eq_false (by omega)
          clear hk0
          go_wp2_with fail
          (refine hq_region mixedT (by kernel_rfl) ?_; (repeat (refine hq_step (fun K hK => ?_); go_simp; first | (refine hK _ ?_; clear hK K) | (apply Exists.intro; refine ⟨fun _ => ?_, hK _ ?_⟩; (fail); clear hK K))); refine hq_nil ?_; intro _ hw'; obtain ⟨⟨nq, osq⟩, hw''⟩ := hw'; subst hw'')
          have hgq : Grown wr (grow (wr.drewN nq) osq) := ⟨nq, osq, rfl⟩
          generalize grow (wr.drewN nq) osq = wq at *
          have HR1 := Lib.hid (HR.out.below hgq.below)
          have HX1 := Lib.hid (Blk.below HX.out hgq.below HX.out.lt)
          have HY1 := Lib.hid (Blk.below HY.out hgq.below HY.out.lt)
          have HB1 := Lib.hid (HB.out.trans (Tch.of_below hgq.below))
          clear HR HX HY HB hgq X1 X2 hltX hltY w5
          have hltX := HX1.out.lt
          have hltY := HY1.out.lt
          obtain ⟨x0, x1, x2, x3, x4, x5, x6, p0, p1, p2, p3, p4, p5, p6⟩ := blk7 HX1.out
          obtain ⟨y0, y1, y2, y3, y4, y5, y6, q0, q1, q2, q3, q4, q5, q6⟩ := blk7 HY1.out
          go_wp2_with fail
          refine bodyPost_ret (v := spF K lo' hi' [] [] false (A') k c') (by simp [results, Try.results61, go_sem, y0, y1, y2, y3, y4, y5, y6]) rfl ?_
          exact ⟨⟨K, lo', hi', [], [], false, m⟩, A', k, c', rfl, HML.out, by omega, RdK.put7 (RdK.set_ HR1.out HA.out 6 _) (fun a ha => Nat.lt_succ_of_lt (HA.out a ha)) _ _ _ _ _ _ _, tch_put7 (tch_set HB1.out (Nat.le_of_eq HG.out)) (by have := HG.out; omega) _ _ _ _ _ _ _, HT.out.done HK.out HLo.out HHi.out HLO.out HHO.out⟩
        · have hk1 : k - 1 < m.length := by rw [HML.out]; omega
          obtain ⟨g, off, rfl, hg, c0, c1, c2⟩ := RdW.at3 HR.out hk1
          have hgG : g < G := HA.out _ rfl
          have hne3 : ¬ g = G := by omega
          obtain ⟨x, hx⟩ : ∃ x, m[k - 1] = x := ⟨_, rfl⟩
          have HXX := Lib.hid hx
          rw [hx] at c0 c1 c2
          clear hx
          obtain ⟨xk, xi, xt⟩ := x
          have C1 := fun n os => cell_grown (w := wr) (a := ⟨g, off + (k - 1) * 3 + 1, none⟩) hg c1 n os
          clear c0 c1 c2
          have w1 : IntKind.i64.wrap ((k : Int) - 1) = (k : Int) - 1 := by rw [IntKind.wrap_i64]; omega
          have w2' : (0 : Int) ≤ (k : Int) - 1 := by omega
          have w3' : (k : Int) - 1 < (k : Int) := by omega
          have w4 : ((k : Int) - 1).toNat = k - 1 := by omega
          have w7 : (1 : Int) ≤ (k : Int) := by omega
          have w8 : 0 < k := by omega
          have w5 : decide (0 < k) = true := decide_eq_true (by omega)
          have hlast : ∀ h0 : 0 < m.length, m[m.length - 1] = ⟨xk, xi, xt⟩ := fun h0 => by
            have e : m.length - 1 = k - 1 := by rw [HML.out]
            simp only [e]
            exact HXX.out
          have HLA := Lib.hid hlast
          clear hlast
          by_cases hxi : xi = hi'
          · subst hxi
            have HT2 : Hid (TN K lo hi l lo' (xi - 1) (m.take (k - 1))) := by
              have h0 : 0 < m.length := by omega
              have := HT.out.down HLO.out h0 (by rw [HLA.out h0])
              rw [HML.out] at this
              exact this
            have hlt3 : lo' ≤ xi - 1 := HT2.out.ord
            go_wp2_with fail
            (refine hq_region mixedT (by kernel_rfl) ?_; (repeat (refine hq_step (fun K hK => ?_); go_simp; first | (refine hK _ ?_; clear hK K) | (apply Exists.intro; refine ⟨fun _ => ?_, hK _ ?_⟩; (fail); clear hK K))); refine hq_nil ?_; intro _ hw'; obtain ⟨⟨nq, osq⟩, hw''⟩ := hw'; subst hw'')
            have hgq : Grown wr (grow (wr.drewN nq) osq) := ⟨nq, osq, rfl⟩
            generalize grow (wr.drewN nq) osq = wq at *
            have HR1 := Lib.hid (HR.out.below hgq.below)
            have HX1 := Lib.hid (Blk.below HX.out hgq.below HX.out.lt)
            have HY1 := Lib.hid (Blk.below HY.out hgq.below HY.out.lt)
            have HB1 := Lib.hid (HB.out.trans (Tch.of_below hgq.below))
            clear HR HX HY HB hgq X1 X2 hltX hltY C1 w2' w3' w4 w5 w7 w8
            have hltX := HX1.out.lt
            have hltY := HY1.out.lt
            obtain ⟨x0, x1, x2, x3, x4, x5, x6, p0, p1, p2, p3, p4, p5, p6⟩ := blk7 HX1.out
            obtain ⟨y0, y1, y2, y3, y4, y5, y6, q0, q1, q2, q3, q4, q5, q6⟩ := blk7 HY1.out
            have w6 : IntKind.i64.wrap (xi - 1) = xi - 1 := by rw [IntKind.wrap_i64]; omega
            have hhd : ∀ W, (Instr.slice 27 (.slice (some ⟨g, off, none⟩) k c') none (some (.int .i64 ((k : Int) - 1))) none).run Try.prog W = .ok (.slice (some ⟨g, off, none⟩) (k - 1) c') W := by
              intro W
              have := run_headW (some ⟨g, off, none⟩) k c' (k - 1) (by omega) hkc W
              rw [show ((k - 1 : Nat) : Int) = (k : Int) - 1 by omega] at this
              exact this
            go_wp2_with fail
            go_roundg (k - 1)
            case measure => omega
            case rel => exact ⟨m.take (k - 1), xi - 1, some ⟨g, off, none⟩, k - 1, rfl, by omega, by omega, Nat.le_refl _, hlt3, by omega, by show _ = _; simp [HML.out], HT2, RdK.set_ (RdK.take HR1.out _) HA.out _ _, HA, by show Blk _ _ _ _; simpa using Blk.put HX1.out 2 (.int .i64 (xi - 1)), Blk.far HY1.out (by show G + 1 ≠ G; omega) _, tch_set HB1.out (Nat.le_of_eq HG.out)⟩
          · have HHO : Hid ((⟨K, hi', []⟩ : Val) ∉ l) := HT.out.high_out fun h0 => by rw [HLA.out h0]; exact hxi
            have w6 : (xi == hi') = false := beq_eq_false_iff_ne.2 hxi
            go_wp2_with fail
            (refine hq_region mixedT (by kernel_rfl) ?_; (repeat (refine hq_step (fun K hK => ?_); go_simp; first | (refine hK _ ?_; clear hK K) | (apply Exists.intro; refine ⟨fun _ => ?_, hK _ ?_⟩; (fail); clear hK K))); refine hq_nil ?_; intro _ hw'; obtain ⟨⟨nq, osq⟩, hw''⟩ := hw'; subst hw'')
            have hgq : Grown wr (grow (wr.drewN nq) osq) := ⟨nq, osq, rfl⟩
            generalize grow (wr.drewN nq) osq = wq at *
            have HR1 := Lib.hid (HR.out.below hgq.below)
            have HX1 := Lib.hid (Blk.below HX.out hgq.below HX.out.lt)
            have HY1 := Lib.hid (Blk.below HY.out hgq.below HY.out.lt)
            have HB1 := Lib.hid (HB.out.trans (Tch.of_below hgq.below))
            clear HR HX HY HB hgq X1 X2 hltX hltY C1 w1 w2' w3' w4 w5 w6 w7 w8 hxi
            have hltX := HX1.out.lt
            have hltY := HY1.out.lt
            obtain ⟨x0, x1, x2, x3, x4, x5, x6, p0, p1, p2, p3, p4, p5, p6⟩ := blk7 HX1.out
            obtain ⟨y0, y1, y2, y3, y4, y5, y6, q0, q1, q2, q3, q4, q5, q6⟩ := blk7 HY1.out
            go_wp2_with fail
            refine bodyPost_ret (v := spF K lo' hi' [] [] false (some ⟨g, off, none⟩) k c') (by simp [results, Try.results61, go_sem, y0, y1, y2, y3, y4, y5, y6]) rfl ?_
            exact ⟨⟨K, lo', hi', [], [], false, m⟩, some ⟨g, off, none⟩, k, c', rfl, HML.out, by omega, RdK.put7 (RdK.set_ HR1.out HA.out 6 _) (fun a ha => Nat.lt_succ_of_lt (HA.out a ha)) _ _ _ _ _ _ _, tch_put7 (tch_set HB1.out (Nat.le_of_eq HG.out)) (by have := HG.out; omega) _ _ _ _ _ _ _, HT.out.done HK.out HLo.out HHi.out HLO.out HHO.out⟩
    · have h0 : 0 < m.length := by rw [HML.out]; omega
      obtain ⟨g, off, rfl, hg, c0, c1, c2⟩ := RdW.at3 HR.out h0
      have hgG : g < G := HA.out _ rfl
      have hne3 : ¬ g = G := by omega
      obtain ⟨x, hx⟩ : ∃ x, m[0] = x := ⟨_, rfl⟩
      have HXX := Lib.hid hx
      rw [hx] at c0 c1 c2
      clear hx
      obtain ⟨xk, xi, xt⟩ := x
      rw [Nat.zero_mul, Nat.add_zero] at c1
      have C1 := fun n os => cell_grown (w := wr) (a := ⟨g, off + 1, none⟩) hg c1 n os
      clear c0 c1 c2
      have w5 : decide (0 < k) = true := decide_eq_true (by omega)
      have w6 : (0 : Int) < (k : Int) := by omega
      have w9 : 0 < k := by omega
      by_cases hxi : xi = lo'
      · subst hxi
        by_cases hxh : xi = hi
        · have HF : Hid (IsInts K lo hi l none_) := HT.out.full HK.out h0 (by rw [HXX.out]) hxh rfl
          subst hxh
          go_wp2_with fail
          (refine hq_region mixedT (by kernel_rfl) ?_; (repeat (refine hq_step (fun K hK => ?_); go_simp; first | (refine hK _ ?_; clear hK K) | (apply Exists.intro; refine ⟨fun _ => ?_, hK _ ?_⟩; (fail); clear hK K))); refine hq_nil ?_; intro _ hw'; obtain ⟨⟨nq, osq⟩, hw''⟩ := hw'; subst hw'')
          have hgq : Grown wr (grow (wr.drewN nq) osq) := ⟨nq, osq, rfl⟩
          generalize grow (wr.drewN nq) osq = wq at *
          have HR1 := Lib.hid (HR.out.below hgq.below)
          have HX1 := Lib.hid (Blk.below HX.out hgq.below HX.out.lt)
          have HY1 := Lib.hid (Blk.below HY.out hgq.below HY.out.lt)
          have HB1 := Lib.hid (HB.out.trans (Tch.of_below hgq.below))
          clear HR HX HY HB hgq X1 X2 hltX hltY C1 w5 w6 w9
          have hltX := HX1.out.lt
          have hltY := HY1.out.lt
          obtain ⟨x0, x1, x2, x3, x4, x5, x6, p0, p1, p2, p3, p4, p5, p6⟩ := blk7 HX1.out
          obtain ⟨y0, y1, y2, y3, y4, y5, y6, q0, q1, q2, q3, q4, q5, q6⟩ := blk7 HY1.out
          go_wp2_with fail
          refine bodyPost_ret (v := spF 0 0 0 [] [] false none 0 0) (by simp [results, Try.results61, go_sem, y0, y1, y2, y3, y4, y5, y6]) rfl ?_
          exact ⟨none_, none, 0, 0, rfl, rfl, Nat.zero_le _, .inl rfl, tch_put7 HB1.out (by have := HG.out; omega) _ _ _ _ _ _ _, HF.out⟩
        · have HT2 : Hid (TN K lo hi l (xi + 1) hi (m.drop 1)) := HT.out.up h0 (by rw [HXX.out]) hxh
          have w7 : (xi == hi) = false := beq_eq_false_iff_ne.2 hxh
          have w8 : IntKind.i64.wrap (xi + 1) = xi + 1 := by rw [IntKind.wrap_i64]; omega
          go_wp2_with fail
          (refine hq_region mixedT (by kernel_rfl) ?_; (repeat (refine hq_step (fun K hK => ?_); go_simp; first | (refine hK _ ?_; clear hK K) | (apply Exists.intro; refine ⟨fun _ => ?_, hK _ ?_⟩; (fail); clear hK K))); refine hq_nil ?_; intro _ hw'; obtain ⟨⟨nq, osq⟩, hw''⟩ := hw'; subst hw'')
          have hgq : Grown wr (grow (wr.drewN nq) osq) := ⟨nq, osq, rfl⟩
          generalize grow (wr.drewN nq) osq = wq at *
          have HR1 := Lib.hid (HR.out.below hgq.below)
          have HX1 := Lib.hid (Blk.below HX.out hgq.below HX.out.lt)
          have HY1 := Lib.hid (Blk.below HY.out hgq.below HY.out.lt)
          have HB1 := Lib.hid (HB.out.trans (Tch.of_below hgq.below))
          clear HR HX HY HB hgq X1 X2 hltX hltY C1 w5 w6 w9
          have hltX := HX1.out.lt
          have hltY := HY1.out.lt
          obtain ⟨x0, x1, x2, x3, x4, x5, x6, p0, p1, p2, p3, p4, p5, p6⟩ := blk7 HX1.out
          obtain ⟨y0, y1, y2, y3, y4, y5, y6, q0, q1, q2, q3, q4, q5, q6⟩ := blk7 HY1.out
          obtain ⟨B', hcut, hrc, hBB⟩ := run_cutB HR1.out HA.out HML.out (by omega) hkc
          have HRC := Lib.hid hrc
          have HBB := Lib.hid hBB
          clear hrc hBB
          go_wp2_with fail
          go_roundg (k - 1)
          case measure => omega
          case rel => exact ⟨m.drop 1, xi + 1, B', k - 1, c' - 1, rfl, by omega, by omega, Nat.le_refl _, by omega, by omega, by show _ = _; simp [HML.out], HT2, RdK.set_ HRC.out HBB.out _ _, HBB, by show Blk _ _ _ _; simpa using Blk.put HX1.out 1 (.int .i64 (xi + 1)), Blk.far HY1.out (by show G + 1 ≠ G; omega) _, tch_set HB1.out (Nat.le_of_eq HG.out)⟩
      · have HLO : Hid ((⟨K, lo', []⟩ : Val) ∉ l) := HT.out.low_out fun h0 => by rw [HXX.out]; exact hxi
        have w7 : (xi == lo') = false := beq_eq_false_iff_ne.2 hxi
        go_wp2_with fail
        (refine hq_region mixedT (by kernel_rfl) ?_; (repeat (refine hq_step (fun K hK => ?_); go_simp; first | (refine hK _ ?_; clear hK K) | (apply Exists.intro; refine ⟨fun _ => ?_, hK _ ?_⟩; (fail); clear hK K))); refine hq_nil ?_; intro _ hw'; obtain ⟨⟨nq, osq⟩, hw''⟩ := hw'; subst hw'')
        have hgq : Grown wr (grow (wr.drewN nq) osq) := ⟨nq, osq, rfl⟩
        generalize grow (wr.drewN nq) osq = wq at *
        have HR1 := Lib.hid (HR.out.below hgq.below)
        have HX1 := Lib.hid (Blk.below HX.out hgq.below HX.out.lt)
        have HY1 := Lib.hid (Blk.below HY.out hgq.below HY.out.lt)
        have HB1 := Lib.hid (HB.out.trans (Tch.of_below hgq.below))
        clear HR HX HY HB hgq X1 X2 hltX hltY C1 w5 w6 w7 w9 hgG hg hne3 hxi HXX
        go_wp2_with fail
        go_loopg [3] k (fun gg s3 wr => ∃ (m : List Val) (hi' : Int) (A' : Option Addr) (k' : Nat), s3 = .slice A' k' c' ∧ k' ≤ c' ∧ k' ≤ n3 ∧ k' ≤ gg ∧ lo' ≤ hi' ∧ hi' ≤ hi ∧ Hid (m.length = k') ∧ Hid (TN K lo hi l lo' hi' m) ∧ Hid (RdW wr A' m) ∧ Hid (∀ a, A' = some a → a.block < G) ∧ Hid (Blk wr G 29 #[.int .i64 K, .int .i64 lo', .int .i64 hi', .string ⟨#[]⟩, .string ⟨#[]⟩, .bool false, .slice A n c]) ∧ Hid (Blk wr (G + 1) 29 #[.int .i64 0, .int .i64 0, .int .i64 0, .string ⟨#[]⟩, .string ⟨#[]⟩, .bool false, .slice none 0 0]) ∧ Hid (Tch A w wr))
        case atStart => exact ⟨m, hi, some ⟨g, off, none⟩, k, rfl, hkc, hkn, Nat.le_refl _, hlr, Int.le_refl _, HML, HT, HR1, HA, HX1, HY1, HB1⟩
        case round =>
          obtain ⟨m, hi', A', k, rfl, hkc, hkn, hkg, hll2, hlr2, HML, HT, HR, HA, HX, HY, HB⟩ := hrel
          clear HR1 HX1 HY1 HB1
          have hltX := HX.out.lt
          have hltY := HY.out.lt
          have X1 := fun n os => cell_grown (w := wr) (a := ⟨G, 1, none⟩) hltX (HX.out.cell 1) n os
          have X2 := fun n os => cell_grown (w := wr) (a := ⟨G, 2, none⟩) hltX (HX.out.cell 2) n os
          simp at X1 X2
          by_cases hk0 : k = 0
          · have HHO : Hid ((⟨K, hi', []⟩ : Val) ∉ l) := HT.out.high_out fun h0 => by have := HML.out; omega
            have w5 : decide (0 < k) = false := decide_eq_false (by omega)
            clear hk0
            go_wp2_with fail
            (refine hq_region mixedT (by kernel_rfl) ?_; (repeat (refine hq_step (fun K hK => ?_); go_simp; first | (refine hK _ ?_; clear hK K) | (apply Exists.intro; refine ⟨fun _ => ?_, hK _ ?_⟩; (fail); clear hK K))); refine hq_nil ?_; intro _ hw'; obtain ⟨⟨nq, osq⟩, hw''⟩ := hw'; subst hw'')
            have hgq : Grown wr (grow (wr.drewN nq) osq) := ⟨nq, osq, rfl⟩
            generalize grow (wr.drewN nq) osq = wq at *
            have HR1 := Lib.hid (HR.out.below hgq.below)
            have HX1 := Lib.hid (Blk.below HX.out hgq.below HX.out.lt)
            have HY1 := Lib.hid (Blk.below HY.out hgq.below HY.out.lt)
            have HB1 := Lib.hid (HB.out.trans (Tch.of_below hgq.below))
            clear HR HX HY HB hgq X1 X2 hltX hltY w5
            have hltX := HX1.out.lt
            have hltY := HY1.out.lt
            obtain ⟨x0, x1, x2, x3, x4, x5, x6, p0, p1, p2, p3, p4, p5, p6⟩ := blk7 HX1.out
            obtain ⟨y0, y1, y2, y3, y4, y5, y6, q0, q1, q2, q3, q4, q5, q6⟩ := blk7 HY1.out
            go_wp2_with fail
            refine bodyPost_ret (v := spF K lo' hi' [] [] false (A') k c') (by simp [results, Try.results61, go_sem, y0, y1, y2, y3, y4, y5, y6]) rfl ?_
            exact ⟨⟨K, lo', hi', [], [], false, m⟩, A', k, c', rfl, HML.out, by omega, RdK.put7 (RdK.set_ HR1.out HA.out 6 _) (fun a ha => Nat.lt_succ_of_lt (HA.out a ha)) _ _ _ _ _ _ _, tch_put7 (tch_set HB1.out (Nat.le_of_eq HG.out)) (by have := HG.out; omega) _ _ _ _ _ _ _, HT.out.done HK.out HLo.out HHi.out HLO.out HHO.out⟩
          · have hk1 : k - 1 < m.length := by rw [HML.out]; omega
            obtain ⟨g, off, rfl, hg, c0, c1, c2⟩ := RdW.at3 HR.out hk1
            have hgG : g < G := HA.out _ rfl
            have hne3 : ¬ g = G := by omega
            obtain ⟨x, hx⟩ : ∃ x, m[k - 1] = x := ⟨_, rfl⟩
            have HXX := Lib.hid hx
            rw [hx] at c0 c1 c2
            clear hx
            obtain ⟨xk, xi, xt⟩ := x
            have C1 := fun n os => cell_grown (w := wr) (a := ⟨g, off + (k - 1) * 3 + 1, none⟩) hg c1 n os
            clear c0 c1 c2
            have w1 : IntKind.i64.wrap ((k : Int) - 1) = (k : Int) - 1 := by rw [IntKind.wrap_i64]; omega
            have w2' : (0 : Int) ≤ (k : Int) - 1 := by omega
            have w3' : (k : Int) - 1 < (k : Int) := by omega
            have w4 : ((k : Int) - 1).toNat = k - 1 := by omega
            have w7 : (1 : Int) ≤ (k : Int) := by omega
            have w8 : 0 < k := by omega
            have w5 : decide (0 < k) = true := decide_eq_true (by omega)
            have hlast : ∀ h0 : 0 < m.length, m[m.length - 1] = ⟨xk, xi, xt⟩ := fun h0 => by
              have e : m.length - 1 = k - 1 := by rw [HML.out]
              simp only [e]
              exact HXX.out
            have HLA := Lib.hid hlast
            clear hlast
            by_cases hxi : xi = hi'
            · subst hxi
              have HT2 : Hid (TN K lo hi l lo' (xi - 1) (m.take (k - 1))) := by
                have h0 : 0 < m.length := by omega
                have := HT.out.down HLO.out h0 (by rw [HLA.out h0])
                rw [HML.out] at this
                exact this
              have hlt3 : lo' ≤ xi - 1 := HT2.out.ord
              go_wp2_with fail
              (refine hq_region mixedT (by kernel_rfl) ?_; (repeat (refine hq_step (fun K hK => ?_); go_simp; first | (refine hK _ ?_; clear hK K) | (apply Exists.intro; refine ⟨fun _ => ?_, hK _ ?_⟩; (fail); clear hK K))); refine hq_nil ?_; intro _ hw'; obtain ⟨⟨nq, osq⟩, hw''⟩ := hw'; subst hw'')
              have hgq : Grown wr (grow (wr.drewN nq) osq) := ⟨nq, osq, rfl⟩
              generalize grow (wr.drewN nq) osq = wq at *
              have HR1 := Lib.hid (HR.out.below hgq.below)
              have HX1 := Lib.hid (Blk.below HX.out hgq.below HX.out.lt)
              have HY1 := Lib.hid (Blk.below HY.out hgq.below HY.out.lt)
              have HB1 := Lib.hid (HB.out.trans (Tch.of_below hgq.below))
              clear HR HX HY HB hgq X1 X2 hltX hltY C1 w2' w3' w4 w5 w7 w8
              have hltX := HX1.out.lt
              have hltY := HY1.out.lt
              obtain ⟨x0, x1, x2, x3, x4, x5, x6, p0, p1, p2, p3, p4, p5, p6⟩ := blk7 HX1.out
              obtain ⟨y0, y1, y2, y3, y4, y5, y6, q0, q1, q2, q3, q4, q5, q6⟩ := blk7 HY1.out
              have w6 : IntKind.i64.wrap (xi - 1) = xi - 1 := by rw [IntKind.wrap_i64]; omega
              have hhd : ∀ W, (Instr.slice 27 (.slice (some ⟨g, off, none⟩) k c') none (some (.int .i64 ((k : Int) - 1))) none).run Try.prog W = .ok (.slice (some ⟨g, off, none⟩) (k - 1) c') W := by
                intro W
                have := run_headW (some ⟨g, off, none⟩) k c' (k - 1) (by omega) hkc W
                rw [show ((k - 1 : Nat) : Int) = (k : Int) - 1 by omega] at this
                exact this
              go_wp2_with fail
              go_roundg (k - 1)
              case measure => omega
              case rel => exact ⟨m.take (k - 1), xi - 1, some ⟨g, off, none⟩, k - 1, rfl, by omega, by omega, Nat.le_refl _, hlt3, by omega, by show _ = _; simp [HML.out], HT2, RdK.set_ (RdK.take HR1.out _) HA.out _ _, HA, by show Blk _ _ _ _; simpa using Blk.put HX1.out 2 (.int .i64 (xi - 1)), Blk.far HY1.out (by show G + 1 ≠ G; omega) _, tch_set HB1.out (Nat.le_of_eq HG.out)⟩
            · have HHO : Hid ((⟨K, hi', []⟩ : Val) ∉ l) := HT.out.high_out fun h0 => by rw [HLA.out h0]; exact hxi
              have w6 : (xi == hi') = false := beq_eq_false_iff_ne.2 hxi
              go_wp2_with fail
              (refine hq_region mixedT (by kernel_rfl) ?_; (repeat (refine hq_step (fun K hK => ?_); go_simp; first | (refine hK _ ?_; clear hK K) | (apply Exists.intro; refine ⟨fun _ => ?_, hK _ ?_⟩; (fail); clear hK K))); refine hq_nil ?_; intro _ hw'; obtain ⟨⟨nq, osq⟩, hw''⟩ := hw'; subst hw'')
              have hgq : Grown wr (grow (wr.drewN nq) osq) := ⟨nq, osq, rfl⟩
              generalize grow (wr.drewN nq) osq = wq at *
              have HR1 := Lib.hid (HR.out.below hgq.below)
              have HX1 := Lib.hid (Blk.below HX.out hgq.below HX.out.lt)
              have HY1 := Lib.hid (Blk.below HY.out hgq.below HY.out.lt)
              have HB1 := Lib.hid (HB.out.trans (Tch.of_below hgq.below))
              clear HR HX HY HB hgq X1 X2 hltX hltY C1 w1 w2' w3' w4 w5 w6 w7 w8 hxi
              have hltX := HX1.out.lt
              have hltY := HY1.out.lt
              obtain ⟨x0, x1, x2, x3, x4, x5, x6, p0, p1, p2, p3, p4, p5, p6⟩ := blk7 HX1.out
              obtain ⟨y0, y1, y2, y3, y4, y5, y6, q0, q1, q2, q3, q4, q5, q6⟩ := blk7 HY1.out
              go_wp2_with fail
              refine bodyPost_ret (v := spF K lo' hi' [] [] false (some ⟨g, off, none⟩) k c') (by simp [results, Try.results61, go_sem, y0, y1, y2, y3, y4, y5, y6]) rfl ?_
              exact ⟨⟨K, lo', hi', [], [], false, m⟩, some ⟨g, off, none⟩, k, c', rfl, HML.out, by omega, RdK.put7 (RdK.set_ HR1.out HA.out 6 _) (fun a ha => Nat.lt_succ_of_lt (HA.out a ha)) _ _ _ _ _ _ _, tch_put7 (tch_set HB1.out (Nat.le_of_eq HG.out)) (by have := HG.out; omega) _ _ _ _ _ _ _, HT.out.done HK.out HLo.out HHi.out HLO.out HHO.out⟩
end Go.Proofs.Ytcgmbgfbhdimeaa
