/- Package span: copied; slices.Grow, slices.Concat over values. -/
import Derived.Test.YtcgmbgfbhdimeaaSHas
import Derived.Laws.Append
namespace Go.Proofs.Ytcgmbgfbhdimeaa
open Go.RowKit Spans Op
theorem OwnK.set_ {α : Type} {L : Lay α} {w : World} {base : Nat} {v : Value} {es : List α} (h : OwnK L w base v es) {b : Nat} (hb : b < base) (i : Nat) (u : Value) : OwnK L (w.setCell ⟨b, i, none⟩ u) base v es := by
  refine ⟨h.1, ?_⟩
  rcases h.2 with h2 | ⟨g, cap, cur, hv, hbg, hg, r⟩
  · exact .inl h2
  · exact .inr ⟨g, cap, cur, hv, hbg, Blk.far hg (by show g ≠ b; omega) u, r⟩
theorem OwnK.form {α : Type} {L : Lay α} {w : World} {base : Nat} {v : Value} {es : List α} (h : OwnK L w base v es) {n : Nat} (hn : es.length = n) : ∃ A c, v = .slice A n c ∧ n ≤ c ∧ RdK L w A es := by
  subst hn; exact h.rd
theorem below_set {B b i : Nat} {w w' : World} {u : Value} (h : Below B w w') (hb : B ≤ b) : Below B w (w'.setCell ⟨b, i, none⟩ u) :=
  ⟨h.os, h.tape, h.output, by simpa using h.size, fun k hk => (heap_setCell_other w' ⟨b, i, none⟩ k u (by show k ≠ b; omega)).trans (h.block k hk)⟩
theorem OwnK.put7 {α : Type} {L : Lay α} {w : World} {base : Nat} {v : Value} {es : List α} (h : OwnK L w base v es) {b : Nat} (hb : b < base) (u0 u1 u2 u3 u4 u5 u6 : Value) :
    OwnK L (((((((w.setCell ⟨b, 0, none⟩ u0).setCell ⟨b, 1, none⟩ u1).setCell ⟨b, 2, none⟩ u2).setCell ⟨b, 3, none⟩ u3).setCell ⟨b, 4, none⟩ u4).setCell ⟨b, 5, none⟩ u5).setCell ⟨b, 6, none⟩ u6) base v es :=
  ((((((h.set_ hb 0 u0).set_ hb 1 u1).set_ hb 2 u2).set_ hb 3 u3).set_ hb 4 u4).set_ hb 5 u5).set_ hb 6 u6
theorem below_put7 {B b : Nat} {w0 w : World} (h : Below B w0 w) (hb : B ≤ b) (u0 u1 u2 u3 u4 u5 u6 : Value) :
    Below B w0 (((((((w.setCell ⟨b, 0, none⟩ u0).setCell ⟨b, 1, none⟩ u1).setCell ⟨b, 2, none⟩ u2).setCell ⟨b, 3, none⟩ u3).setCell ⟨b, 4, none⟩ u4).setCell ⟨b, 5, none⟩ u5).setCell ⟨b, 6, none⟩ u6) :=
  below_set (below_set (below_set (below_set (below_set (below_set (below_set h hb) hb) hb) hb) hb) hb) hb
/-- A span handed back, its row in new memory. -/
def Gives (w : World) (a : Sp) (e : Ending) (w' : World) : Prop := ∃ A n c, e = .returned (spF a.kind a.lo a.hi a.frm a.to_ a.opn A n c) ∧ a.no.length = n ∧ n ≤ c ∧ OwnW w' w.heap.size (.slice A n c) a.no ∧ Below w.heap.size w w'
theorem Gives.rd {w' : World} {A : Option Addr} {n c : Nat} {b : Nat} {es : List Val} (h : OwnW w' b (.slice A n c) es) : RdW w' A es := by
  obtain ⟨A', c', e, _, hr⟩ := OwnK.rd h
  injection e with e1 e2 e3
  subst e1
  exact hr
set_option maxRecDepth 100000 in
set_option maxHeartbeats 1000000 in
theorem copied_at (K lo hi : Int) (f t : List UInt8) (o : Bool) (A : Option Addr) (n c : Nat) (w : World) (es : List Val) (hn : es.length = n) (hm : n ≤ 100000) (hr : RdW w A es) :
    Calls Try.prog 30 #[spF K lo hi f t o A n c] w (Gives w ⟨K, lo, hi, f, t, o, es⟩) := by
  have HN := Lib.hid hn
  have hgr := gr2 w (.cells #[.int .i64 K, .int .i64 lo, .int .i64 hi, .string ⟨f.toArray⟩, .string ⟨t.toArray⟩, .bool o, .slice A n c] 29) (.cells #[.int .i64 0, .int .i64 0, .int .i64 0, .string ⟨#[]⟩, .string ⟨#[]⟩, .bool false, .slice none 0 0] 29)
  have hr2 := hr.below hgr.below
  have hbx := (Blk.new w 29 #[.int .i64 K, .int .i64 lo, .int .i64 hi, .string ⟨f.toArray⟩, .string ⟨t.toArray⟩, .bool o, .slice A n c]).alloc (.cells #[.int .i64 0, .int .i64 0, .int .i64 0, .string ⟨#[]⟩, .string ⟨#[]⟩, .bool false, .slice none 0 0] 29)
  have hrs := Blk.new (w.alloc (.cells #[.int .i64 K, .int .i64 lo, .int .i64 hi, .string ⟨f.toArray⟩, .string ⟨t.toArray⟩, .bool o, .slice A n c] 29)) 29 #[.int .i64 0, .int .i64 0, .int .i64 0, .string ⟨#[]⟩, .string ⟨#[]⟩, .bool false, .slice none 0 0]
  have hsz : ((w.alloc (.cells #[.int .i64 K, .int .i64 lo, .int .i64 hi, .string ⟨f.toArray⟩, .string ⟨t.toArray⟩, .bool o, .slice A n c] 29)).alloc (.cells #[.int .i64 0, .int .i64 0, .int .i64 0, .string ⟨#[]⟩, .string ⟨#[]⟩, .bool false, .slice none 0 0] 29)).heap.size = w.heap.size + 2 := by simp
  rw [show (w.alloc (.cells #[.int .i64 K, .int .i64 lo, .int .i64 hi, .string ⟨f.toArray⟩, .string ⟨t.toArray⟩, .bool o, .slice A n c] 29)).heap.size = w.heap.size + 1 by simp] at hrs
  clear hn hr
  go_enter Try.func30, Try.ntmps30
  go_wp2_with (at_builtin; refine wpList_append_k layV (by rfl) (.const (.slice none 0 0)) (.tmp 4) 27 underV rfl (w.heap.size + 2) _ [] (by rfl) (OwnK.none_ _ _) A es n c (by rfl) hr2 HN.out (by rw [maxLen_num]; simp; omega) (by show (0 + n) * 32 ≤ _; omega) (by simp) ?_; intro v1 w3 o1 b1 _ _; rw [List.nil_append] at o1; have hb3 := b1 _ (Below.refl _ _); obtain ⟨B, cc, rfl, hcc, hrB⟩ := o1.form HN.out; have hX := Blk.below hbx hb3 (by omega); have hY := Blk.below hrs hb3 (by omega); obtain ⟨x0, x1, x2, x3, x4, x5, x6, k0, k1, k2, k3, k4, k5, k6⟩ := blk7 hX; obtain ⟨y0, y1, y2, y3, y4, y5, y6, l0, l1, l2, l3, l4, l5, l6⟩ := blk7 hY; have hs3 : w.heap.size + 2 ≤ w3.heap.size := hsz ▸ hb3.size; clear b1 hbx hrs hr2)
  refine bodyPost_ret (v := spF K lo hi f t o B n cc) (by simp [results, Try.results30, go_sem, y0, y1, y2, y3, y4, y5, y6]) rfl ?_
  refine ⟨B, n, cc, rfl, HN.out, hcc, ?_, ?_⟩
  · exact ((OwnK.set_ o1 (by omega) 6 _).put7 (by omega) _ _ _ _ _ _ _).less (by omega)
  · exact below_put7 (below_set (hgr.below.trans (hb3.mono (by omega))) (Nat.le_refl _)) (by omega) _ _ _ _ _ _ _
set_option maxRecDepth 100000 in
set_option maxHeartbeats 1000000 in
theorem grow_pos (n : Nat) (hn : 0 < n) (hm : n ≤ 100000) (w : World) : Calls Try.prog 58 #[.slice none 0 0, .int .i64 (n : Int)] w fun e w' => ∃ v, e = .returned v ∧ OwnW w' w.heap.size v [] ∧ Below w.heap.size w w' := by
  have hf := growslice_fits (need := n) (old := 0) (bytes := 32) hn (by omega)
  have hby : Try.t24.bytes = 32 := rfl
  go_enter Try.func58, Try.ntmps58
  go_wp2_with fail
  all_goals try (exfalso; omega)
  go_ret
  have hge := grownCap_ge w n 0 24
  have hcm : grownCap w n 0 24 ≤ maxLen := grownCap_le_maxLen w n 0 _ (by rw [maxLen_num]; omega)
  refine ⟨_, rfl, ⟨rfl, .inr ⟨w.heap.size, grownCap w n 0 24, _, rfl, Nat.le_refl _, heap_alloc_new w _, Nat.zero_le _, hcm, ?_, rfl⟩⟩, ?_⟩
  · simp only [Array.size_append, size_zeroCells]
    show n * 3 + (grownCap w n 0 24 - n) * 3 = grownCap w n 0 24 * 3
    omega
  · exact (gr1 w _).drew.below
set_option maxRecDepth 100000 in
theorem grow_at (n : Nat) (hm : n ≤ 100000) (w : World) : Calls Try.prog 58 #[.slice none 0 0, .int .i64 (n : Int)] w fun e w' => ∃ v, e = .returned v ∧ OwnW w' w.heap.size v [] ∧ Below w.heap.size w w' := by
  by_cases hn : 0 < n
  · exact grow_pos n hn hm w
  · have e : n = 0 := by omega
    subst e
    go_enter Try.func58, Try.ntmps58
    go_wp2_with fail
    go_ret
    exact ⟨_, rfl, OwnK.none_ _ _, Below.refl _ _⟩
set_option maxRecDepth 100000 in
set_option maxHeartbeats 1000000 in
theorem concatV_at (g0 : Nat) (A : Option Addr) (n c : Nat) (A' : Option Addr) (n' c' : Nat) (w : World) (es fs : List Val) (hn : es.length = n) (hm : n ≤ 10000) (hn' : fs.length = n') (hm' : n' ≤ 10000) (hr : RdW w A es) (hr' : RdW w A' fs) (hg : g0 < w.heap.size)
    (h0 : w.cell? ⟨g0, 0, none⟩ = some (.slice A n c)) (h1 : w.cell? ⟨g0, 1, none⟩ = some (.slice A' n' c')) :
    Calls Try.prog 31 #[.slice (some ⟨g0, 0, none⟩) 2 2] w fun e w' => ∃ v, e = .returned v ∧ OwnW w' w.heap.size v (es ++ fs) ∧ Below w.heap.size w w' := by
  have HN := Lib.hid hn
  have HN' := Lib.hid hn'
  have HR := Lib.hid hr
  have HR' := Lib.hid hr'
  clear hn hn' hr hr'
  go_enter Try.func31, Try.ntmps31
  go_wp2_with fail
  go_loopg [3, 11] 2 (fun gg s3 s11 wr => w = wr ∧ ((s11 = .int .i64 0 ∧ s3 = .int .i64 0 ∧ 2 ≤ gg) ∨ (s11 = .int .i64 1 ∧ s3 = .int .i64 (n : Int) ∧ 1 ≤ gg) ∨ (s11 = .int .i64 2 ∧ s3 = .int .i64 ((n + n' : Nat) : Int))))
  case atStart => exact ⟨rfl, .inl ⟨rfl, rfl, Nat.le_refl _⟩⟩
  case round =>
    obtain ⟨rfl, ⟨rfl, rfl, hgg⟩ | ⟨rfl, rfl, hgg⟩ | ⟨rfl, rfl⟩⟩ := hrel
    · go_wp2_with fail
      go_roundg 1
      case measure => omega
      case rel => exact ⟨rfl, .inr (.inl ⟨rfl, rfl, Nat.le_refl _⟩)⟩
    · go_wp2_with fail
      go_roundg 0
      case measure => omega
      case rel => exact ⟨rfl, .inr (.inr ⟨rfl, by go_num⟩)⟩
    · go_wp2_with fail
      refine (grow_at (n + n') (by omega) _).mono ?_
      rintro e w1 ⟨v, rfl, ho, hb⟩
      have HO := Lib.hid ho
      have HB := Lib.hid hb
      have HH0 := Lib.hid h0
      have HH1 := Lib.hid h1
      clear h0 h1 ho hb
      go_wp2_with fail
      go_loopg [6, 27] 2 (fun gg s6 s27 wr => Hid (Below w.heap.size w wr) ∧ ((s27 = .int .i64 0 ∧ Hid (OwnW wr w.heap.size s6 []) ∧ 2 ≤ gg) ∨ (s27 = .int .i64 1 ∧ Hid (OwnW wr w.heap.size s6 es) ∧ 1 ≤ gg) ∨ (s27 = .int .i64 2 ∧ Hid (OwnW wr w.heap.size s6 (es ++ fs)))))
      case atStart => exact ⟨HB, .inl ⟨rfl, HO, Nat.le_refl _⟩⟩
      case round =>
        obtain ⟨HB2, ⟨rfl, HO2, hgg⟩ | ⟨rfl, HO2, hgg⟩ | ⟨rfl, HO2⟩⟩ := hrel
        · have d0 := (HB2.out.cell (p := ⟨g0, 0, none⟩) hg).trans HH0.out
          have hlb : w.heap.size ≤ wr.heap.size := HB2.out.size
          have hr2 := HR.out.below HB2.out
          clear HO HB
          go_wp2_with (at_builtin; refine wpList_append_k layV (by rfl) (.tmp 31) (.tmp 32) 27 underV rfl w.heap.size _ [] (by rfl) HO2.out A es n c (by rfl) hr2 HN.out (by rw [maxLen_num]; simp; omega) (by show (0 + n) * 32 ≤ _; omega) hlb ?_; intro v1 w3 o1 b1 _ _; rw [List.nil_append] at o1; have HO3 := Lib.hid o1; have HB3 := Lib.hid (b1 _ HB2.out); clear b1 o1 d0)
          go_roundg 1
          case measure => omega
          case rel => exact ⟨HB3, .inr (.inl ⟨rfl, HO3, Nat.le_refl _⟩)⟩
        · have d0 := (HB2.out.cell (p := ⟨g0, 1, none⟩) hg).trans HH1.out
          have hlb : w.heap.size ≤ wr.heap.size := HB2.out.size
          have hr2 := HR'.out.below HB2.out
          clear HO HB
          go_wp2_with (at_builtin; refine wpList_append_k layV (by rfl) (.tmp 31) (.tmp 32) 27 underV rfl w.heap.size _ es (by rfl) HO2.out A' fs n' c' (by rfl) hr2 HN'.out (by rw [maxLen_num, HN.out]; omega) (by show (es.length + n') * 32 ≤ _; rw [HN.out]; omega) hlb ?_; intro v1 w3 o1 b1 _ _; have HO3 := Lib.hid o1; have HB3 := Lib.hid (b1 _ HB2.out); clear b1 o1 d0)
          go_roundg 0
          case measure => omega
          case rel => exact ⟨HB3, .inr (.inr ⟨rfl, HO3⟩)⟩
        · go_wp2_with fail
          go_ret
          exact ⟨_, rfl, HO2.out, HB2.out⟩
end Go.Proofs.Ytcgmbgfbhdimeaa
