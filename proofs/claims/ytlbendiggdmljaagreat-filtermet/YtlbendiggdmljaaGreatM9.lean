/- Contracts of the program and of the document (GCat, GSpn, GPre, GNrm, GCov, GPut, GGet, GSmlM, GLaw), each used further on. -/
import Derived.Test.YtlbendiggdmljaaGreatM7
import Derived.Test.YtlbendiggdmljaaGreatM8
import Derived.Test.YtlbendiggdmljaaGreatM2
namespace Go.Proofs.YtlbendiggdmljaaGreat
open Go.RowKit Go.Sort Spans Op
set_option maxRecDepth 100000 in
set_option maxHeartbeats 1000000 in
theorem growP_pos (n : Nat) (hn : 0 < n) (hm : n ≤ 100000) (w : World) : Calls Tryz.prog 82 #[.slice none 0 0, .int .i64 (n : Int)] w fun e w' => ∃ v, e = .returned v ∧ OwnQ w' w.heap.size v [] ∧ Below w.heap.size w w' := by
  have hf := growslice_fits (need := n) (old := 0) (bytes := 56) hn (by omega)
  have hby : Tryz.t35.bytes = 56 := rfl
  go_enter Tryz.func82, Tryz.ntmps82
  go_wp2_with fail
  all_goals try (exfalso; omega)
  go_ret
  have hge := grownCap_ge w n 0 35
  have hcm : grownCap w n 0 35 ≤ maxLen := grownCap_le_maxLen w n 0 _ (by rw [maxLen_num]; omega)
  refine ⟨_, rfl, ⟨rfl, .inr ⟨w.heap.size, grownCap w n 0 35, _, rfl, Nat.le_refl _, heap_alloc_new w _, Nat.zero_le _, hcm, ?_, rfl⟩⟩, ?_⟩
  · simp only [Array.size_append, size_zeroCells]
    show n * 5 + (grownCap w n 0 35 - n) * 5 = grownCap w n 0 35 * 5
    omega
  · exact (gr1 w _).drew.below
set_option maxRecDepth 100000 in
theorem growP_at (n : Nat) (hm : n ≤ 100000) (w : World) : Calls Tryz.prog 82 #[.slice none 0 0, .int .i64 (n : Int)] w fun e w' => ∃ v, e = .returned v ∧ OwnQ w' w.heap.size v [] ∧ Below w.heap.size w w' := by
  by_cases hn : 0 < n
  · exact growP_pos n hn hm w
  · have e : n = 0 := by omega
    subst e
    go_enter Tryz.func82, Tryz.ntmps82
    go_wp2_with fail
    go_ret
    exact ⟨_, rfl, OwnK.none_ _ _, Below.refl _ _⟩
set_option maxRecDepth 100000 in
set_option maxHeartbeats 1000000 in
theorem concatP_at (g0 : Nat) (A : Option Addr) (n c : Nat) (A' : Option Addr) (n' c' : Nat) (w : World) (es fs : List Pr) (hn : es.length = n) (hm : n ≤ 10000) (hn' : fs.length = n') (hm' : n' ≤ 10000) (hr : RdQ w A es) (hr' : RdQ w A' fs) (hg : g0 < w.heap.size)
    (h0 : w.cell? ⟨g0, 0, none⟩ = some (.slice A n c)) (h1 : w.cell? ⟨g0, 1, none⟩ = some (.slice A' n' c')) :
    Calls Tryz.prog 50 #[.slice (some ⟨g0, 0, none⟩) 2 2] w fun e w' => ∃ v, e = .returned v ∧ OwnQ w' w.heap.size v (es ++ fs) ∧ Below w.heap.size w w' := by
  have HN := Lib.hid hn
  have HN' := Lib.hid hn'
  have HR := Lib.hid hr
  have HR' := Lib.hid hr'
  clear hn hn' hr hr'
  go_enter Tryz.func50, Tryz.ntmps50
  go_wp2_with fail
  go_loopg [3, 11] 2 (fun gg s3 s11 wr => w = wr ∧ ((s11 = .int .i64 0 ∧ s3 = .int .i64 0 ∧ 2 ≤ gg) ∨ (s11 = .int .i64 1 ∧ s3 = .int .i64 (n : Int) ∧ 1 ≤ gg) ∨ (s11 = .int .i64 2 ∧ s3 = .int .i64 ((n + n' : Nat) : Int))))
  case atStart => exact ⟨rfl, .inl ⟨rfl, rfl, Nat.le_refl _⟩⟩
  case round =>
    obtain ⟨rfl, ⟨rfl, rfl, hgg⟩ | ⟨rfl, rfl, hgg⟩ | ⟨rfl, rfl⟩⟩ := hrel
    · go_wp2_with fail
      go_roundg 1
      case measure => omega
      case rel => exact ⟨rfl, .inr (.inl ⟨rfl, rfl, Nat.le_refl _⟩)⟩
    · go_wp2_with fail
      go_roundg 0
      case measure => omega
      case rel => exact ⟨rfl, .inr (.inr ⟨rfl, by go_num⟩)⟩
    · go_wp2_with fail
      refine (growP_at (n + n') (by omega) _).mono ?_
      rintro e w1 ⟨v, rfl, ho, hb⟩
      have HO := Lib.hid ho
      have HB := Lib.hid hb
      have HH0 := Lib.hid h0
      have HH1 := Lib.hid h1
      clear h0 h1 ho hb
      go_wp2_with fail
      go_loopg [6, 27] 2 (fun gg s6 s27 wr => Hid (Below w.heap.size w wr) ∧ ((s27 = .int .i64 0 ∧ Hid (OwnQ wr w.heap.size s6 []) ∧ 2 ≤ gg) ∨ (s27 = .int .i64 1 ∧ Hid (OwnQ wr w.heap.size s6 es) ∧ 1 ≤ gg) ∨ (s27 = .int .i64 2 ∧ Hid (OwnQ wr w.heap.size s6 (es ++ fs)))))
      case atStart => exact ⟨HB, .inl ⟨rfl, HO, Nat.le_refl _⟩⟩
      case round =>
        obtain ⟨HB2, ⟨rfl, HO2, hgg⟩ | ⟨rfl, HO2, hgg⟩ | ⟨rfl, HO2⟩⟩ := hrel
        · have d0 := (HB2.out.cell (p := ⟨g0, 0, none⟩) hg).trans HH0.out
          have hlb : w.heap.size ≤ wr.heap.size := HB2.out.size
          have hr2 := HR.out.below HB2.out
          clear HO HB
          go_wp2_with (at_builtin; refine wpList_append_k layP (by rfl) (.tmp 31) (.tmp 32) 22 underQ rfl w.heap.size _ [] (by rfl) HO2.out A es n c (by rfl) hr2 HN.out (by rw [maxLen_num]; simp; omega) (by show (0 + n) * 56 ≤ _; omega) hlb ?_; intro v1 w3 o1 b1 _ _; rw [List.nil_append] at o1; have HO3 := Lib.hid o1; have HB3 := Lib.hid (b1 _ HB2.out); clear b1 o1 d0)
          go_roundg 1
          case measure => omega
          case rel => exact ⟨HB3, .inr (.inl ⟨rfl, HO3, Nat.le_refl _⟩)⟩
        · have d0 := (HB2.out.cell (p := ⟨g0, 1, none⟩) hg).trans HH1.out
          have hlb : w.heap.size ≤ wr.heap.size := HB2.out.size
          have hr2 := HR'.out.below HB2.out
          clear HO HB
          go_wp2_with (at_builtin; refine wpList_append_k layP (by rfl) (.tmp 31) (.tmp 32) 22 underQ rfl w.heap.size _ es (by rfl) HO2.out A' fs n' c' (by rfl) hr2 HN'.out (by rw [maxLen_num, HN.out]; omega) (by show (es.length + n') * 56 ≤ _; rw [HN.out]; omega) hlb ?_; intro v1 w3 o1 b1 _ _; have HO3 := Lib.hid o1; have HB3 := Lib.hid (b1 _ HB2.out); clear b1 o1 d0)
          go_roundg 0
          case measure => omega
          case rel => exact ⟨HB3, .inr (.inr ⟨rfl, HO3⟩)⟩
        · go_wp2_with fail
          go_ret
          exact ⟨_, rfl, HO2.out, HB2.out⟩
set_option maxRecDepth 100000 in
set_option maxHeartbeats 1000000 in
theorem growB_pos (n : Nat) (hn : 0 < n) (hm : n ≤ 100000) (w : World) : Calls Tryz.prog 83 #[.slice none 0 0, .int .i64 (n : Int)] w fun e w' => ∃ v, e = .returned v ∧ Own w' w.heap.size 5 v [] ∧ Below w.heap.size w w' := by
  have hf := growslice_fits (need := n) (old := 0) (bytes := 1) hn (by omega)
  have hby : Tryz.t5.bytes = 1 := rfl
  go_enter Tryz.func83, Tryz.ntmps83
  go_wp2_with fail
  all_goals try (exfalso; omega)
  go_ret
  have hge := grownCap_ge w n 0 5
  have hcm : grownCap w n 0 5 ≤ maxLen := grownCap_le_maxLen w n 0 _ (by rw [maxLen_num]; omega)
  refine ⟨_, rfl, ⟨rfl, .inr ⟨w.heap.size, grownCap w n 0 5, _, rfl, Nat.le_refl _, heap_alloc_new w _, Nat.zero_le _, hcm, ?_, rfl⟩⟩, ?_⟩
  · simp only [Array.size_append, size_zeroCells]
    show n * 1 + (grownCap w n 0 5 - n) * 1 = grownCap w n 0 5 * 1
    omega
  · exact (gr1 w _).drew.below
set_option maxRecDepth 100000 in
theorem growB_at (n : Nat) (hm : n ≤ 100000) (w : World) : Calls Tryz.prog 83 #[.slice none 0 0, .int .i64 (n : Int)] w fun e w' => ∃ v, e = .returned v ∧ Own w' w.heap.size 5 v [] ∧ Below w.heap.size w w' := by
  by_cases hn : 0 < n
  · exact growB_pos n hn hm w
  · have e : n = 0 := by omega
    subst e
    go_enter Tryz.func83, Tryz.ntmps83
    go_wp2_with fail
    go_ret
    exact ⟨_, rfl, Own.none_ _ _ _, Below.refl _ _⟩
set_option maxRecDepth 100000 in
set_option maxHeartbeats 1000000 in
theorem concatB_at (g0 : Nat) (A : Option Addr) (n c : Nat) (A' : Option Addr) (n' c' : Nat) (w : World) (es fs : List UInt8) (hn : es.length = n) (hm : n ≤ 10000) (hn' : fs.length = n') (hm' : n' ≤ 10000) (hr : Rd w A es) (hr' : Rd w A' fs) (hg : g0 < w.heap.size)
    (h0 : w.cell? ⟨g0, 0, none⟩ = some (.slice A n c)) (h1 : w.cell? ⟨g0, 1, none⟩ = some (.slice A' n' c')) :
    Calls Tryz.prog 51 #[.slice (some ⟨g0, 0, none⟩) 2 2] w fun e w' => ∃ v, e = .returned v ∧ Own w' w.heap.size 5 v (es ++ fs) ∧ Below w.heap.size w w' := by
  have HN := Lib.hid hn
  have HN' := Lib.hid hn'
  have HR := Lib.hid hr
  have HR' := Lib.hid hr'
  clear hn hn' hr hr'
  obtain ⟨i0, hi0, hz0, hz1, hz2⟩ := info_parts byte_info
  go_enter Tryz.func51, Tryz.ntmps51
  go_wp2_with fail
  go_loopg [3, 11] 2 (fun gg s3 s11 wr => w = wr ∧ ((s11 = .int .i64 0 ∧ s3 = .int .i64 0 ∧ 2 ≤ gg) ∨ (s11 = .int .i64 1 ∧ s3 = .int .i64 (n : Int) ∧ 1 ≤ gg) ∨ (s11 = .int .i64 2 ∧ s3 = .int .i64 ((n + n' : Nat) : Int))))
  case atStart => exact ⟨rfl, .inl ⟨rfl, rfl, Nat.le_refl _⟩⟩
  case round =>
    obtain ⟨rfl, ⟨rfl, rfl, hgg⟩ | ⟨rfl, rfl, hgg⟩ | ⟨rfl, rfl⟩⟩ := hrel
    · go_wp2_with fail
      go_roundg 1
      case measure => omega
      case rel => exact ⟨rfl, .inr (.inl ⟨rfl, rfl, Nat.le_refl _⟩)⟩
    · go_wp2_with fail
      go_roundg 0
      case measure => omega
      case rel => exact ⟨rfl, .inr (.inr ⟨rfl, by go_num⟩)⟩
    · go_wp2_with fail
      refine (growB_at (n + n') (by omega) _).mono ?_
      rintro e w1 ⟨v, rfl, ho, hb⟩
      have HO := Lib.hid ho
      have HB := Lib.hid hb
      have HH0 := Lib.hid h0
      have HH1 := Lib.hid h1
      clear h0 h1 ho hb
      go_wp2_with fail
      go_loopg [6, 27] 2 (fun gg s6 s27 wr => Hid (Below w.heap.size w wr) ∧ ((s27 = .int .i64 0 ∧ Hid (Own wr w.heap.size 5 s6 []) ∧ 2 ≤ gg) ∨ (s27 = .int .i64 1 ∧ Hid (Own wr w.heap.size 5 s6 es) ∧ 1 ≤ gg) ∨ (s27 = .int .i64 2 ∧ Hid (Own wr w.heap.size 5 s6 (es ++ fs)))))
      case atStart => exact ⟨HB, .inl ⟨rfl, HO, Nat.le_refl _⟩⟩
      case round =>
        obtain ⟨HB2, ⟨rfl, HO2, hgg⟩ | ⟨rfl, HO2, hgg⟩ | ⟨rfl, HO2⟩⟩ := hrel
        · have d0 := (HB2.out.cell (p := ⟨g0, 0, none⟩) hg).trans HH0.out
          have hlb : w.heap.size ≤ wr.heap.size := HB2.out.size
          have hr2 := HR.out.below HB2.out
          clear HO HB
          go_wp2_with (at_builtin; refine wpList_append_rd rfl (.tmp 31) (.tmp 32) 24 rfl w.heap.size 5 i0 Tryz.underlying24 hi0 hz0 hz1 hz2 _ [] (by rfl) HO2.out A es n c (by rfl) hr2 HN.out (by simp; omega) hlb ?_; intro v1 w3 o1 b1 _ _; rw [List.nil_append] at o1; have HO3 := Lib.hid o1; have HB3 := Lib.hid (b1 _ HB2.out); clear b1 o1 d0)
          go_roundg 1
          case measure => omega
          case rel => exact ⟨HB3, .inr (.inl ⟨rfl, HO3, Nat.le_refl _⟩)⟩
        · have d0 := (HB2.out.cell (p := ⟨g0, 1, none⟩) hg).trans HH1.out
          have hlb : w.heap.size ≤ wr.heap.size := HB2.out.size
          have hr2 := HR'.out.below HB2.out
          clear HO HB
          go_wp2_with (at_builtin; refine wpList_append_rd rfl (.tmp 31) (.tmp 32) 24 rfl w.heap.size 5 i0 Tryz.underlying24 hi0 hz0 hz1 hz2 _ es (by rfl) HO2.out A' fs n' c' (by rfl) hr2 HN'.out (by rw [HN.out]; omega) hlb ?_; intro v1 w3 o1 b1 _ _; have HO3 := Lib.hid o1; have HB3 := Lib.hid (b1 _ HB2.out); clear b1 o1 d0)
          go_roundg 0
          case measure => omega
          case rel => exact ⟨HB3, .inr (.inr ⟨rfl, HO3⟩)⟩
        · go_wp2_with fail
          go_ret
          exact ⟨_, rfl, HO2.out, HB2.out⟩
end Go.Proofs.YtlbendiggdmljaaGreat
namespace Go.Proofs.YtlbendiggdmljaaGreat
open Go.RowKit Go.Maps Spans Op
/-- Rows lie beside the maps. -/
theorem RdK.kept {α : Type} {L : Lay α} {w w' : World} {A : Option Addr} {es : List α} {b m : Nat} {D : DataW Rw} (h : RdK L w A es) (ho : OwnM w b m D) (hg : w.grownBy w' (some b)) : RdK L w' A es := by
  rcases h with h | ⟨g, off, rfl, hgl, hc⟩
  · exact .inl h
  · by_cases e : g = b
    · subst e
      obtain ⟨es', clock, hb, _⟩ := ho
      cases es with
      | nil => exact .inl rfl
      | cons x xs =>
        exfalso
        have hlen := L.len x
        have hpos := L.pos
        have h0 : (L.enc x)[0]? = some ((L.enc x)[0]'(by omega)) := List.getElem?_eq_getElem (by omega)
        have := hc 0 (by simp) 0 _ h0
        simp [World.cell?, hb] at this
    · refine .inr ⟨g, off, rfl, Nat.lt_of_lt_of_le hgl hg.size, fun i hi j v hv => ?_⟩
      exact hg.cell (hc i hi j v hv) (fun k => e (Option.some.inj k))
theorem Spm.kept {w w' : World} {D D' : DataW Rw} {f : List Pr} {S : List UInt8 → Sp} {b m : Nat} (h : Spm w D f S) (ho : OwnM w b m D') (hg : w.grownBy w' (some b)) : Spm w' D f S :=
  ⟨h.map, h.has, fun n hn => by
    obtain ⟨h1, h2, A, c, h3, h4, h5⟩ := h.all n hn
    exact ⟨h1, h2, A, c, h3, h4, RdK.kept h5 ho hg⟩⟩
theorem grown7 (b : Nat) (w : World) (u0 u1 u2 u3 u4 u5 u6 : Value) : w.grownBy (((((((w.setCell ⟨b, 0, none⟩ u0).setCell ⟨b, 1, none⟩ u1).setCell ⟨b, 2, none⟩ u2).setCell ⟨b, 3, none⟩ u3).setCell ⟨b, 4, none⟩ u4).setCell ⟨b, 5, none⟩ u5).setCell ⟨b, 6, none⟩ u6) (some b) := by
  have h : ∀ (w : World) (i : Nat) (u : Value), w.grownBy (w.setCell ⟨b, i, none⟩ u) (some b) := fun w i u => (Touch.refl b w).set_ i u
  exact ((((((h _ _ _).trans (h _ _ _)).trans (h _ _ _)).trans (h _ _ _)).trans (h _ _ _)).trans (h _ _ _)).trans (h _ _ _)
/-- What spansOf tells. -/
def Spanned (w : World) (f : List Pr) (e : Ending) (w' : World) : Prop := ∃ b S, e = .returned (.map (some b)) ∧ SpMap w' b f S ∧ w.heap.size ≤ b ∧ Below w.heap.size w w'
set_option maxRecDepth 100000 in
set_option maxHeartbeats 4000000 in
theorem spansOf_at (A : Option Addr) (f : List Pr) (n c : Nat) (hn : f.length = n) (hm : n ≤ 100) (hl : ∀ p ∈ f, p.n.length ≤ 100 ∧ p.t.length ≤ 100 ∧ -9223372036854775808 ≤ p.i ∧ p.i ≤ 9223372036854775807) (w : World) (hr : RdQ w A f) :
    Calls Tryz.prog 36 #[.slice A n c] w (Spanned w f) := by
  have HN := Lib.hid hn
  have HLL := Lib.hid hl
  have HR := Lib.hid hr
  clear hn hl hr
  have hmm : ∀ (m : Nat) (W : World), (Instr.makeMap 54 (some (.int .i64 (m : Int)))).run Tryz.prog W = .ok (.map (some W.heap.size)) (W.alloc (.map #[] 0)) := fun m W => by
    simp [Instr.makeMap, run_underlying Tryz.underlying54, asInt, asIntOf]
  have hown0 : Hid (OwnM (w.alloc (.map #[] 0)) w.heap.size 0 (.map [])) := World.ownsMap_made (H := Rw) w Tryz.prog 9 elemR
  have hb0 : Hid (Below w.heap.size w (w.alloc (.map #[] 0))) := (Below.refl _ _).alloc (Nat.le_refl _) _
  have hs0 : Hid (Spm (w.alloc (.map #[] 0)) (.map []) (f.take 0) (fun _ => none_)) := ⟨isMap_empty, fun n => by simp [Maps.has, Fil.Asked], fun n ⟨p, hp, _⟩ => by simp at hp⟩
  go_enter Tryz.func36, Tryz.ntmps36
  go_wp2_with fail
  clear hmm
  go_loopg [13] n (fun gg s13 wr => ∃ (k : Nat) (D : DataW Rw) (S : List UInt8 → Sp), k ≤ n ∧ n - k ≤ gg ∧ s13 = .int .i64 (k : Int) ∧ Hid (OwnM wr w.heap.size k D) ∧ Hid (Spm wr D (f.take k) S) ∧ Hid (Below w.heap.size w wr))
  case atStart => exact ⟨0, _, _, Nat.zero_le _, by omega, rfl, hown0, hs0, hb0⟩
  case round =>
    obtain ⟨k, D, S, hk, hgg, rfl, HO, HS, HB⟩ := hrel
    clear hown0 hb0 hs0
    by_cases hlt : k < n
    · have hk' : k < f.length := by rw [HN.out]; exact hlt
      have hpl := HLL.out _ (List.getElem_mem hk')
      obtain ⟨g, off, rfl, hg, c0, c1, c2, c3, c4⟩ := RdQ.at5 (RdK.below HR.out HB.out) hk'
      obtain ⟨x, hx⟩ : ∃ x, f[k] = x := ⟨_, rfl⟩
      have HX := Lib.hid hx
      rw [hx] at c0 c1 c2 c3 c4 hpl
      clear hx HLL
      obtain ⟨xn, xo, xk, xi, xt⟩ := x
      obtain ⟨hp1, hp2, hp3, hp4⟩ := hpl
      dsimp only at hp1 hp2 hp3 hp4 c0 c1 c2 c3 c4
      have w5 : (k : Int) < (n : Int) := by omega
      have hP0 := Blk.new wr 35 #[.string ⟨xn.toArray⟩, .int .i64 xo, .int .i64 xk, .int .i64 xi, .string ⟨xt.toArray⟩]
      have hPl : w.heap.size < wr.heap.size := World.ownsMap.lt HO.out
      have hO1 := World.ownsMap.alloc HO.out (.cells #[.string ⟨xn.toArray⟩, .int .i64 xo, .int .i64 xk, .int .i64 xi, .string ⟨xt.toArray⟩] 35)
      by_cases hask : Fil.Asked (f.take k) xn
      · obtain ⟨ha1, ha2, B, d, ha3, ha4, ha5⟩ := HS.out.all xn hask
        obtain ⟨a, hSa⟩ : ∃ a, S xn = a := ⟨_, rfl⟩
        rw [hSa] at ha1 ha2 ha3 ha4 ha5
        clear hSa hask
        obtain ⟨K, lo, hi, g1, t1, o1, es⟩ := a
        dsimp only [rw_] at ha2 ha3 ha4 ha5
        obtain ⟨m, hml⟩ : ∃ m, es.length = m := ⟨_, rfl⟩
        rw [hml] at ha2 ha3 ha4
        have hmk : m ≤ k := by rw [List.length_take] at ha2; omega
        have hlook : (Instr.lookup 54 (.map (some w.heap.size)) (.string ⟨xn.toArray⟩) true).run Tryz.prog (wr.alloc (.cells #[.string ⟨xn.toArray⟩, .int .i64 xo, .int .i64 xk, .int .i64 xi, .string ⟨xt.toArray⟩] 35)) = .ok (.tuple #[.agg #[.int .i64 K, .int .i64 lo, .int .i64 hi, .string ⟨g1.toArray⟩, .string ⟨t1.toArray⟩, .bool o1, .slice B m d], .bool true]) (wr.alloc (.cells #[.string ⟨xn.toArray⟩, .int .i64 xo, .int .i64 xk, .int .i64 xi, .string ⟨xt.toArray⟩] 35)) := (look_yes hO1 (by omega) ha3).1
        have hV : Blk ((wr.alloc (.cells #[.string ⟨xn.toArray⟩, .int .i64 xo, .int .i64 xk, .int .i64 xi, .string ⟨xt.toArray⟩] 35)).alloc (.cells #[.int .i64 K, .int .i64 lo, .int .i64 hi, .string ⟨g1.toArray⟩, .string ⟨t1.toArray⟩, .bool o1, .slice B m d] 64)) (wr.heap.size + 1) 64 #[.int .i64 K, .int .i64 lo, .int .i64 hi, .string ⟨g1.toArray⟩, .string ⟨t1.toArray⟩, .bool o1, .slice B m d] := by
          have := Blk.new (wr.alloc (.cells #[.string ⟨xn.toArray⟩, .int .i64 xo, .int .i64 xk, .int .i64 xi, .string ⟨xt.toArray⟩] 35)) 64 #[.int .i64 K, .int .i64 lo, .int .i64 hi, .string ⟨g1.toArray⟩, .string ⟨t1.toArray⟩, .bool o1, .slice B m d]
          rwa [show (wr.alloc (.cells #[.string ⟨xn.toArray⟩, .int .i64 xo, .int .i64 xk, .int .i64 xi, .string ⟨xt.toArray⟩] 35)).heap.size = wr.heap.size + 1 by simp] at this
        have hP := Blk.alloc hP0 (.cells #[.int .i64 K, .int .i64 lo, .int .i64 hi, .string ⟨g1.toArray⟩, .string ⟨t1.toArray⟩, .bool o1, .slice B m d] 64)
        have HBW := Lib.hid ((HB.out.alloc (by have := HB.out.size; omega) (.cells #[.string ⟨xn.toArray⟩, .int .i64 xo, .int .i64 xk, .int .i64 xi, .string ⟨xt.toArray⟩] 35)).alloc (by have := HB.out.size; simp; omega) (.cells #[.int .i64 K, .int .i64 lo, .int .i64 hi, .string ⟨g1.toArray⟩, .string ⟨t1.toArray⟩, .bool o1, .slice B m d] 64))
        have HOW : Hid (OwnM _ _ _ _) := Lib.hid (World.ownsMap.alloc hO1 (.cells #[.int .i64 K, .int .i64 lo, .int .i64 hi, .string ⟨g1.toArray⟩, .string ⟨t1.toArray⟩, .bool o1, .slice B m d] 64))
        have hbl : Below wr.heap.size wr ((wr.alloc (.cells #[.string ⟨xn.toArray⟩, .int .i64 xo, .int .i64 xk, .int .i64 xi, .string ⟨xt.toArray⟩] 35)).alloc (.cells #[.int .i64 K, .int .i64 lo, .int .i64 hi, .string ⟨g1.toArray⟩, .string ⟨t1.toArray⟩, .bool o1, .slice B m d] 64)) := ((Below.refl _ _).alloc (Nat.le_refl _) _).alloc (by simp) _
        have HSW := Lib.hid (HS.out.below hbl)
        have hrB := RdK.below ha5 hbl
        have HI := Lib.hid ha1
        clear ha1 ha2 ha3 ha4 ha5 hbl hO1 hP0 HO HS HB
        go_wp2_with fail
        clear hlook c0 c1 c2 c3 c4 hg
        generalize (wr.alloc (.cells #[.string ⟨xn.toArray⟩, .int .i64 xo, .int .i64 xk, .int .i64 xi, .string ⟨xt.toArray⟩] 35)).alloc (.cells #[.int .i64 K, .int .i64 lo, .int .i64 hi, .string ⟨g1.toArray⟩, .string ⟨t1.toArray⟩, .bool o1, .slice B m d] 64) = W at *
        generalize wr.heap.size = P at *
        have hS0 : Blk W.drew P 35 #[.string ⟨xn.toArray⟩, .int .i64 xo, .int .i64 xk, .int .i64 xi, .string ⟨xt.toArray⟩] ∧ Blk W.drew (P + 1) 64 #[.int .i64 K, .int .i64 lo, .int .i64 hi, .string ⟨g1.toArray⟩, .string ⟨t1.toArray⟩, .bool o1, .slice B m d] := ⟨hP, hV⟩
        refine wp_region_held_drew (S := fun w' => Blk w' P 35 #[.string ⟨xn.toArray⟩, .int .i64 xo, .int .i64 xk, .int .i64 xi, .string ⟨xt.toArray⟩] ∧ Blk w' (P + 1) 64 #[.int .i64 K, .int .i64 lo, .int .i64 hi, .string ⟨g1.toArray⟩, .string ⟨t1.toArray⟩, .bool o1, .slice B m d]) (by kernel_rfl) hS0 (fun _ => ?_)
        refine wpAnyH_yes (i := 0) (d := 27) (v := ?_) rfl rfl (by kernel_rfl) (by kernel_rfl) (by kernel_rfl) (fun _ _ _ h => h) (by rfl) ?_ hS0 ?_
        rotate_left
        · intro w' hSw; obtain ⟨q0, q1, q2, q3, q4, _⟩ := blk5 hSw.1; obtain ⟨s0, s1, s2, s3, s4, s5, s6, _⟩ := blk7 hSw.2; go_simp <;> with_reducible rfl
        simp only [Act.put, List.setIfInBounds_toArray, List.set_cons_zero, List.set_cons_succ]
        refine wpAnyH_yes (i := 1) (d := 28) (v := ?_) rfl rfl (by kernel_rfl) (by kernel_rfl) (by kernel_rfl) (fun _ _ _ h => h) (by rfl) ?_ hS0 ?_
        rotate_left
        · intro w' hSw; obtain ⟨q0, q1, q2, q3, q4, _⟩ := blk5 hSw.1; obtain ⟨s0, s1, s2, s3, s4, s5, s6, _⟩ := blk7 hSw.2; go_simp <;> with_reducible rfl
        simp only [Act.put, List.setIfInBounds_toArray, List.set_cons_zero, List.set_cons_succ]
        refine wpAnyH_yes (i := 2) (d := 29) (v := ?_) rfl rfl (by kernel_rfl) (by kernel_rfl) (by kernel_rfl) (fun _ _ _ h => h) (by rfl) ?_ hS0 ?_
        rotate_left
        · intro w' hSw; obtain ⟨q0, q1, q2, q3, q4, _⟩ := blk5 hSw.1; obtain ⟨s0, s1, s2, s3, s4, s5, s6, _⟩ := blk7 hSw.2; go_simp <;> with_reducible rfl
        simp only [Act.put, List.setIfInBounds_toArray, List.set_cons_zero, List.set_cons_succ]
        refine wpAnyH_yes (i := 3) (d := 30) (v := ?_) rfl rfl (by kernel_rfl) (by kernel_rfl) (by kernel_rfl) (fun _ _ _ h => h) (by rfl) ?_ hS0 ?_
        rotate_left
        · intro w' hSw; obtain ⟨q0, q1, q2, q3, q4, _⟩ := blk5 hSw.1; obtain ⟨s0, s1, s2, s3, s4, s5, s6, _⟩ := blk7 hSw.2; go_simp <;> with_reducible rfl
        simp only [Act.put, List.setIfInBounds_toArray, List.set_cons_zero, List.set_cons_succ]
        refine wpAnyH_yes (i := 4) (d := 31) (v := ?_) rfl rfl (by kernel_rfl) (by kernel_rfl) (by kernel_rfl) (fun _ _ _ h => h) (by rfl) ?_ hS0 ?_
        rotate_left
        · intro w' hSw; obtain ⟨q0, q1, q2, q3, q4, _⟩ := blk5 hSw.1; obtain ⟨s0, s1, s2, s3, s4, s5, s6, _⟩ := blk7 hSw.2; go_simp <;> with_reducible rfl
        simp only [Act.put, List.setIfInBounds_toArray, List.set_cons_zero, List.set_cons_succ]
        have hB3 := HBW.out.drew
        have hM3 : OwnM W.drew w.heap.size k D := HOW.out
        have hSp3 : Spm W.drew D (f.take k) S := HSW.out.below (Below.refl _ _).drew
        have hr3 : RdW W.drew B es := RdK.below hrB (Below.refl _ _).drew
        clear HBW HOW HSW hrB hP hV
        generalize W.drew = w4 at *
        refine wpAnyH_one (i := 5) (by kernel_rfl) rfl (by rfl) (fun Ka hKa => ?_)
        go_simp
        with_reducible refine (of_at ⟨xn, xo, xk, xi, xt⟩ w4 (by show xn.length ≤ _; omega) (by show xt.length ≤ _; omega) hp3 hp4).mono ?_
        rintro e w5 ⟨⟨uK, ulo, uhi, uf, ut, uo, uno⟩, hof, hul, A5, n5, c5, rfl, hl5, hc5, ho5, hb5⟩
        dsimp only at hul hl5 ho5
        have hS1 : Blk w5 P 35 #[.string ⟨xn.toArray⟩, .int .i64 xo, .int .i64 xk, .int .i64 xi, .string ⟨xt.toArray⟩] ∧ Blk w5 (P + 1) 64 #[.int .i64 K, .int .i64 lo, .int .i64 hi, .string ⟨g1.toArray⟩, .string ⟨t1.toArray⟩, .bool o1, .slice B m d] := ⟨Blk.below hS0.1 hb5 hS0.1.lt, Blk.below hS0.2 hb5 hS0.2.lt⟩
        have hB5 := below_next hB3 (by have := hB3.size; omega) hb5
        have hM5 := OwnM.below hM3 hb5
        have hSp5 := hSp3.below hb5
        have hr5 := RdK.below hr3 hb5
        go_wp2_with fail
        refine hKa.out _ _ hS1 ?_
        clear hKa Ka hB3 hM3 hSp3 hr3 hb5 hS0
        refine wpAnyH_one (i := 6) (by kernel_rfl) rfl (by rfl) (fun Ka hKa => ?_)
        go_simp
        have hcA : Canon ⟨K, lo, hi, g1, t1, o1, es⟩ := HI.out.1
        have hcB : Canon ⟨uK, ulo, uhi, uf, ut, uo, uno⟩ := hof.1
        have hrB := Gives.rd ho5
        with_reducible refine (meet_at ⟨K, lo, hi, g1, t1, o1, es⟩ ⟨uK, ulo, uhi, uf, ut, uo, uno⟩ hcA hcB B m d A5 n5 c5 w5 hml (by omega) hl5 (by omega) hr5 hrB).mono ?_
        rintro e w6 ⟨⟨rK, rlo, rhi, rf, rt, ro, rno⟩, him, hrl, A7, n7, c7, rfl, hl7, hc7, ho7, hb7⟩
        dsimp only at hrl hl7 ho7
        have hS2 : Blk w6 P 35 #[.string ⟨xn.toArray⟩, .int .i64 xo, .int .i64 xk, .int .i64 xi, .string ⟨xt.toArray⟩] ∧ Blk w6 (P + 1) 64 #[.int .i64 K, .int .i64 lo, .int .i64 hi, .string ⟨g1.toArray⟩, .string ⟨t1.toArray⟩, .bool o1, .slice B m d] := ⟨Blk.below hS1.1 hb7 hS1.1.lt, Blk.below hS1.2 hb7 hS1.2.lt⟩
        have hB6 := below_next hB5 (by have := hB5.size; omega) hb7
        have hM6 := OwnM.below hM5 hb7
        have hSp6 := hSp5.below hb7
        have hr7 := Gives.rd ho7
        have HA7 : Hid (IsAll (Fil.of (f.take k) xn ++ [⟨xn, xo, xk, xi, xt⟩]) ⟨rK, rlo, rhi, rf, rt, ro, rno⟩) := all_snoc HI.out hof him
        go_wp2_with fail
        refine hKa.out _ _ hS2 ?_
        clear hKa Ka hB5 hM5 hSp5 hr5 hS1 hrB hb7 ho7 ho5 hof him hcA hcB
        refine wpAnyH_one (i := 7) (by kernel_rfl) rfl (by rfl) (fun Ka hKa => ?_)
        obtain ⟨w7, hrun7, hM7, hg7⟩ := World.ownsMap.update hM6 lawS Tryz.underlying54 (show k < maxLen by rw [maxLen_num]; omega) (keyN (n := xn) (by omega)) (elemR_mk ⟨rK, rlo, rhi, rf, rt, ro, A7, n7, c7⟩)
        have hrun8 : (Instr.mapUpdate 54 (.map (some w.heap.size)) (.string ⟨xn.toArray⟩) (.agg #[.int .i64 rK, .int .i64 rlo, .int .i64 rhi, .string ⟨rf.toArray⟩, .string ⟨rt.toArray⟩, .bool ro, .slice A7 n7 c7])).run Tryz.prog w6 = .ok () w7 := hrun7
        have hne1 : P ≠ w.heap.size := by omega
        have hne2 : P + 1 ≠ w.heap.size := by omega
        have hS3 : Blk w7 P 35 #[.string ⟨xn.toArray⟩, .int .i64 xo, .int .i64 xk, .int .i64 xi, .string ⟨xt.toArray⟩] ∧ Blk w7 (P + 1) 64 #[.int .i64 K, .int .i64 lo, .int .i64 hi, .string ⟨g1.toArray⟩, .string ⟨t1.toArray⟩, .bool o1, .slice B m d] := ⟨(hg7.block _ hS2.1.lt (fun e => hne1 (Option.some.inj e))).trans hS2.1, (hg7.block _ hS2.2.lt (fun e => hne2 (Option.some.inj e))).trans hS2.2⟩
        have HB7 : Hid (Below w.heap.size w w7) := hB6.grown hg7 hB6.size (fun j hj => by cases hj; exact Nat.le_refl _)
        have HSp7 : Hid (Spm w7 (D.put (.string xn) (.held ⟨rK, rlo, rhi, rf, rt, ro, A7, n7, c7⟩)) (f.take (k + 1)) (fun n => if n = xn then ⟨rK, rlo, rhi, rf, rt, ro, rno⟩ else S n)) := by
          show Spm _ _ _ _
          rw [List.take_succ_eq_append_getElem hk', HX.out]
          have hlen : (f.take k).length = k := by rw [List.length_take, HN.out]; omega
          have := Spm.snoc (p := ⟨xn, xo, xk, xi, xt⟩) (A := A7) (c := c7) (hSp6.kept hM6 hg7) HA7.out (by show rno.length ≤ _; rw [hlen]; omega) (by show rno.length ≤ c7; omega) (RdK.kept hr7 hM6 hg7)
          unfold rw_ at this
          dsimp only at this
          rw [hl7] at this
          exact this
        have HM7 := Lib.hid hM7
        clear hM7 hM6 hSp6 hr7 hB6 hrun7 hg7
        go_simp
        refine hKa.out _ _ hS3 ?_
        clear hKa Ka hS2 hS3 hrun8 HA7
        refine wpAnyH_done (by kernel_rfl) ?_ _
        clear HI HX HR hml hrl hul hl5 hl7
        go_wp2_with fail
        go_roundg (n - (k + 1))
        case measure => omega
        case rel => exact ⟨k + 1, _, _, by omega, Nat.le_refl _, by go_num, HM7, HSp7, HB7⟩
      · have hno : Maps.has D (.string xn) = false := by
          cases h : Maps.has D (.string xn) with
          | false => rfl
          | true => exact absurd ((HS.out.has xn).1 h) hask
        have hlook : (Instr.lookup 54 (.map (some w.heap.size)) (.string ⟨xn.toArray⟩) true).run Tryz.prog (wr.alloc (.cells #[.string ⟨xn.toArray⟩, .int .i64 xo, .int .i64 xk, .int .i64 xi, .string ⟨xt.toArray⟩] 35)) = .ok (.tuple #[.agg #[.int .i64 0, .int .i64 0, .int .i64 0, .string ⟨#[]⟩, .string ⟨#[]⟩, .bool false, .slice none 0 0], .bool false]) (wr.alloc (.cells #[.string ⟨xn.toArray⟩, .int .i64 xo, .int .i64 xk, .int .i64 xi, .string ⟨xt.toArray⟩] 35)) := look_no hO1 (by omega) hno
        have hV0 : Blk ((wr.alloc (.cells #[.string ⟨xn.toArray⟩, .int .i64 xo, .int .i64 xk, .int .i64 xi, .string ⟨xt.toArray⟩] 35)).alloc (.cells #[.int .i64 0, .int .i64 0, .int .i64 0, .string ⟨#[]⟩, .string ⟨#[]⟩, .bool false, .slice none 0 0] 64)) (wr.heap.size + 1) 64 #[.int .i64 0, .int .i64 0, .int .i64 0, .string ⟨#[]⟩, .string ⟨#[]⟩, .bool false, .slice none 0 0] := by
          have := Blk.new (wr.alloc (.cells #[.string ⟨xn.toArray⟩, .int .i64 xo, .int .i64 xk, .int .i64 xi, .string ⟨xt.toArray⟩] 35)) 64 #[.int .i64 0, .int .i64 0, .int .i64 0, .string ⟨#[]⟩, .string ⟨#[]⟩, .bool false, .slice none 0 0]
          rwa [show (wr.alloc (.cells #[.string ⟨xn.toArray⟩, .int .i64 xo, .int .i64 xk, .int .i64 xi, .string ⟨xt.toArray⟩] 35)).heap.size = wr.heap.size + 1 by simp] at this
        have hP := Blk.alloc hP0 (.cells #[.int .i64 0, .int .i64 0, .int .i64 0, .string ⟨#[]⟩, .string ⟨#[]⟩, .bool false, .slice none 0 0] 64)
        have HBW := (HB.out.alloc (by have := HB.out.size; omega) (.cells #[.string ⟨xn.toArray⟩, .int .i64 xo, .int .i64 xk, .int .i64 xi, .string ⟨xt.toArray⟩] 35)).alloc (by have := HB.out.size; simp; omega) (.cells #[.int .i64 0, .int .i64 0, .int .i64 0, .string ⟨#[]⟩, .string ⟨#[]⟩, .bool false, .slice none 0 0] 64)
        have HOW := World.ownsMap.alloc hO1 (.cells #[.int .i64 0, .int .i64 0, .int .i64 0, .string ⟨#[]⟩, .string ⟨#[]⟩, .bool false, .slice none 0 0] 64)
        have hbl : Below wr.heap.size wr ((wr.alloc (.cells #[.string ⟨xn.toArray⟩, .int .i64 xo, .int .i64 xk, .int .i64 xi, .string ⟨xt.toArray⟩] 35)).alloc (.cells #[.int .i64 0, .int .i64 0, .int .i64 0, .string ⟨#[]⟩, .string ⟨#[]⟩, .bool false, .slice none 0 0] 64)) := ((Below.refl _ _).alloc (Nat.le_refl _) _).alloc (by simp) _
        have HSK : Hid (∀ w', Below wr.heap.size wr w' → Spm w' D (f.take k) S) := fun w' h => HS.out.below h
        have HBL := Lib.hid hbl
        have HI : Hid (IsAll (Fil.of (f.take k) xn) ⟨4, 0, 0, [], [], false, []⟩) := by
          show IsAll _ _
          rw [of_none hask]
          exact all_nil
        clear hbl hO1 hP0 HO HS HB hno hask
        have HP := Lib.hid hP
        have HV0 := Lib.hid hV0
        have HBW0 := Lib.hid HBW
        have HOW0 : Hid (OwnM _ _ _ _) := Lib.hid HOW
        clear hP hV0 HBW HOW
        go_wp2_with fail
        clear hlook c0 c1 c2 c3 c4 hg
        generalize (wr.alloc (.cells #[.string ⟨xn.toArray⟩, .int .i64 xo, .int .i64 xk, .int .i64 xi, .string ⟨xt.toArray⟩] 35)).alloc (.cells #[.int .i64 0, .int .i64 0, .int .i64 0, .string ⟨#[]⟩, .string ⟨#[]⟩, .bool false, .slice none 0 0] 64) = W0 at *
        generalize wr.heap.size = P at *
        refine (all_at W0).mono ?_
        rintro e W1 ⟨rfl, hg1⟩
        have hV1 := Blk.below HV0.out hg1.below HV0.out.lt
        have hP1 := Blk.below HP.out hg1.below HP.out.lt
        obtain ⟨z0, z1, z2, z3, z4, z5, z6, y0, y1, y2, y3, y4, y5, y6⟩ := blk7 hV1
        have hlV := hV1.lt
        have hV := Blk.put7 hV1 (.int .i64 4) (.int .i64 0) (.int .i64 0) (.string ⟨#[]⟩) (.string ⟨#[]⟩) (.bool false) (.slice none 0 0)
        have hP := Blk.far7 hP1 (b := P + 1) (by omega) (.int .i64 4) (.int .i64 0) (.int .i64 0) (.string ⟨#[]⟩) (.string ⟨#[]⟩) (.bool false) (.slice none 0 0)
        have hBW1 := below_next HBW0.out (by have := HBW0.out.size; omega) hg1.below
        have HBW := Lib.hid (below_put7 hBW1 (show w.heap.size ≤ P + 1 by omega) (.int .i64 4) (.int .i64 0) (.int .i64 0) (.string ⟨#[]⟩) (.string ⟨#[]⟩) (.bool false) (.slice none 0 0))
        have hgt := grown7 (P + 1) W1 (.int .i64 4) (.int .i64 0) (.int .i64 0) (.string ⟨#[]⟩) (.string ⟨#[]⟩) (.bool false) (.slice none 0 0)
        have HOW : Hid (OwnM _ _ _ _) := Lib.hid (World.ownsMap.kept (OwnM.below HOW0.out hg1.below) hgt (fun e => by have := Option.some.inj e; omega))
        have hbl1 := HBL.out.trans (hg1.below.mono (by have := HV0.out.lt; omega))
        have HSW := Lib.hid (HSK.out _ (below_put7 hbl1 (show P ≤ P + 1 by omega) (.int .i64 4) (.int .i64 0) (.int .i64 0) (.string ⟨#[]⟩) (.string ⟨#[]⟩) (.bool false) (.slice none 0 0)))
        clear hBW1 hgt hP1 HP HV0 HBW0 HOW0 HSK HBL hbl1 hg1
        go_wp2_with fail
        clear z0 z1 z2 z3 z4 z5 z6 y0 y1 y2 y3 y4 y5 y6 hlV hV1
        generalize (((((((W1.setCell ⟨P + 1, 0, none⟩ (.int .i64 4)).setCell ⟨P + 1, 1, none⟩ (.int .i64 0)).setCell ⟨P + 1, 2, none⟩ (.int .i64 0)).setCell ⟨P + 1, 3, none⟩ (.string ⟨#[]⟩)).setCell ⟨P + 1, 4, none⟩ (.string ⟨#[]⟩)).setCell ⟨P + 1, 5, none⟩ (.bool false)).setCell ⟨P + 1, 6, none⟩ (.slice none 0 0)) = W at *
        have hrB : RdW W none [] := .inl rfl
        have hml : ([] : List Val).length = 0 := rfl
        have hmk : 0 ≤ k := Nat.zero_le _
        have hS0 : Blk W.drew P 35 #[.string ⟨xn.toArray⟩, .int .i64 xo, .int .i64 xk, .int .i64 xi, .string ⟨xt.toArray⟩] ∧ Blk W.drew (P + 1) 64 #[.int .i64 4, .int .i64 0, .int .i64 0, .string ⟨#[]⟩, .string ⟨#[]⟩, .bool false, .slice none 0 0] := ⟨hP, hV⟩
        refine wp_region_held_drew (S := fun w' => Blk w' P 35 #[.string ⟨xn.toArray⟩, .int .i64 xo, .int .i64 xk, .int .i64 xi, .string ⟨xt.toArray⟩] ∧ Blk w' (P + 1) 64 #[.int .i64 4, .int .i64 0, .int .i64 0, .string ⟨#[]⟩, .string ⟨#[]⟩, .bool false, .slice none 0 0]) (by kernel_rfl) hS0 (fun _ => ?_)
        refine wpAnyH_yes (i := 0) (d := 27) (v := ?_) rfl rfl (by kernel_rfl) (by kernel_rfl) (by kernel_rfl) (fun _ _ _ h => h) (by rfl) ?_ hS0 ?_
        rotate_left
        · intro w' hSw; obtain ⟨q0, q1, q2, q3, q4, _⟩ := blk5 hSw.1; obtain ⟨s0, s1, s2, s3, s4, s5, s6, _⟩ := blk7 hSw.2; go_simp <;> with_reducible rfl
        simp only [Act.put, List.setIfInBounds_toArray, List.set_cons_zero, List.set_cons_succ]
        refine wpAnyH_yes (i := 1) (d := 28) (v := ?_) rfl rfl (by kernel_rfl) (by kernel_rfl) (by kernel_rfl) (fun _ _ _ h => h) (by rfl) ?_ hS0 ?_
        rotate_left
        · intro w' hSw; obtain ⟨q0, q1, q2, q3, q4, _⟩ := blk5 hSw.1; obtain ⟨s0, s1, s2, s3, s4, s5, s6, _⟩ := blk7 hSw.2; go_simp <;> with_reducible rfl
        simp only [Act.put, List.setIfInBounds_toArray, List.set_cons_zero, List.set_cons_succ]
        refine wpAnyH_yes (i := 2) (d := 29) (v := ?_) rfl rfl (by kernel_rfl) (by kernel_rfl) (by kernel_rfl) (fun _ _ _ h => h) (by rfl) ?_ hS0 ?_
        rotate_left
        · intro w' hSw; obtain ⟨q0, q1, q2, q3, q4, _⟩ := blk5 hSw.1; obtain ⟨s0, s1, s2, s3, s4, s5, s6, _⟩ := blk7 hSw.2; go_simp <;> with_reducible rfl
        simp only [Act.put, List.setIfInBounds_toArray, List.set_cons_zero, List.set_cons_succ]
        refine wpAnyH_yes (i := 3) (d := 30) (v := ?_) rfl rfl (by kernel_rfl) (by kernel_rfl) (by kernel_rfl) (fun _ _ _ h => h) (by rfl) ?_ hS0 ?_
        rotate_left
        · intro w' hSw; obtain ⟨q0, q1, q2, q3, q4, _⟩ := blk5 hSw.1; obtain ⟨s0, s1, s2, s3, s4, s5, s6, _⟩ := blk7 hSw.2; go_simp <;> with_reducible rfl
        simp only [Act.put, List.setIfInBounds_toArray, List.set_cons_zero, List.set_cons_succ]
        refine wpAnyH_yes (i := 4) (d := 31) (v := ?_) rfl rfl (by kernel_rfl) (by kernel_rfl) (by kernel_rfl) (fun _ _ _ h => h) (by rfl) ?_ hS0 ?_
        rotate_left
        · intro w' hSw; obtain ⟨q0, q1, q2, q3, q4, _⟩ := blk5 hSw.1; obtain ⟨s0, s1, s2, s3, s4, s5, s6, _⟩ := blk7 hSw.2; go_simp <;> with_reducible rfl
        simp only [Act.put, List.setIfInBounds_toArray, List.set_cons_zero, List.set_cons_succ]
        have hB3 := HBW.out.drew
        have hM3 : OwnM W.drew w.heap.size k D := HOW.out
        have hSp3 : Spm W.drew D (f.take k) S := HSW.out.below (Below.refl _ _).drew
        have hr3 : RdW W.drew none [] := RdK.below hrB (Below.refl _ _).drew
        clear HBW HOW HSW hrB hP hV
        generalize W.drew = w4 at *
        refine wpAnyH_one (i := 5) (by kernel_rfl) rfl (by rfl) (fun Ka hKa => ?_)
        go_simp
        with_reducible refine (of_at ⟨xn, xo, xk, xi, xt⟩ w4 (by show xn.length ≤ _; omega) (by show xt.length ≤ _; omega) hp3 hp4).mono ?_
        rintro e w5 ⟨⟨uK, ulo, uhi, uf, ut, uo, uno⟩, hof, hul, A5, n5, c5, rfl, hl5, hc5, ho5, hb5⟩
        dsimp only at hul hl5 ho5
        have hS1 : Blk w5 P 35 #[.string ⟨xn.toArray⟩, .int .i64 xo, .int .i64 xk, .int .i64 xi, .string ⟨xt.toArray⟩] ∧ Blk w5 (P + 1) 64 #[.int .i64 4, .int .i64 0, .int .i64 0, .string ⟨#[]⟩, .string ⟨#[]⟩, .bool false, .slice none 0 0] := ⟨Blk.below hS0.1 hb5 hS0.1.lt, Blk.below hS0.2 hb5 hS0.2.lt⟩
        have hB5 := below_next hB3 (by have := hB3.size; omega) hb5
        have hM5 := OwnM.below hM3 hb5
        have hSp5 := hSp3.below hb5
        have hr5 := RdK.below hr3 hb5
        go_wp2_with fail
        refine hKa.out _ _ hS1 ?_
        clear hKa Ka hB3 hM3 hSp3 hr3 hb5 hS0
        refine wpAnyH_one (i := 6) (by kernel_rfl) rfl (by rfl) (fun Ka hKa => ?_)
        go_simp
        have hcA : Canon ⟨4, 0, 0, [], [], false, []⟩ := HI.out.1
        have hcB : Canon ⟨uK, ulo, uhi, uf, ut, uo, uno⟩ := hof.1
        have hrB := Gives.rd ho5
        with_reducible refine (meet_at ⟨4, 0, 0, [], [], false, []⟩ ⟨uK, ulo, uhi, uf, ut, uo, uno⟩ hcA hcB none 0 0 A5 n5 c5 w5 hml (by omega) hl5 (by omega) hr5 hrB).mono ?_
        rintro e w6 ⟨⟨rK, rlo, rhi, rf, rt, ro, rno⟩, him, hrl, A7, n7, c7, rfl, hl7, hc7, ho7, hb7⟩
        dsimp only at hrl hl7 ho7
        have hS2 : Blk w6 P 35 #[.string ⟨xn.toArray⟩, .int .i64 xo, .int .i64 xk, .int .i64 xi, .string ⟨xt.toArray⟩] ∧ Blk w6 (P + 1) 64 #[.int .i64 4, .int .i64 0, .int .i64 0, .string ⟨#[]⟩, .string ⟨#[]⟩, .bool false, .slice none 0 0] := ⟨Blk.below hS1.1 hb7 hS1.1.lt, Blk.below hS1.2 hb7 hS1.2.lt⟩
        have hB6 := below_next hB5 (by have := hB5.size; omega) hb7
        have hM6 := OwnM.below hM5 hb7
        have hSp6 := hSp5.below hb7
        have hr7 := Gives.rd ho7
        have HA7 : Hid (IsAll (Fil.of (f.take k) xn ++ [⟨xn, xo, xk, xi, xt⟩]) ⟨rK, rlo, rhi, rf, rt, ro, rno⟩) := all_snoc HI.out hof him
        go_wp2_with fail
        refine hKa.out _ _ hS2 ?_
        clear hKa Ka hB5 hM5 hSp5 hr5 hS1 hrB hb7 ho7 ho5 hof him hcA hcB
        refine wpAnyH_one (i := 7) (by kernel_rfl) rfl (by rfl) (fun Ka hKa => ?_)
        obtain ⟨w7, hrun7, hM7, hg7⟩ := World.ownsMap.update hM6 lawS Tryz.underlying54 (show k < maxLen by rw [maxLen_num]; omega) (keyN (n := xn) (by omega)) (elemR_mk ⟨rK, rlo, rhi, rf, rt, ro, A7, n7, c7⟩)
        have hrun8 : (Instr.mapUpdate 54 (.map (some w.heap.size)) (.string ⟨xn.toArray⟩) (.agg #[.int .i64 rK, .int .i64 rlo, .int .i64 rhi, .string ⟨rf.toArray⟩, .string ⟨rt.toArray⟩, .bool ro, .slice A7 n7 c7])).run Tryz.prog w6 = .ok () w7 := hrun7
        have hne1 : P ≠ w.heap.size := by omega
        have hne2 : P + 1 ≠ w.heap.size := by omega
        have hS3 : Blk w7 P 35 #[.string ⟨xn.toArray⟩, .int .i64 xo, .int .i64 xk, .int .i64 xi, .string ⟨xt.toArray⟩] ∧ Blk w7 (P + 1) 64 #[.int .i64 4, .int .i64 0, .int .i64 0, .string ⟨#[]⟩, .string ⟨#[]⟩, .bool false, .slice none 0 0] := ⟨(hg7.block _ hS2.1.lt (fun e => hne1 (Option.some.inj e))).trans hS2.1, (hg7.block _ hS2.2.lt (fun e => hne2 (Option.some.inj e))).trans hS2.2⟩
        have HB7 : Hid (Below w.heap.size w w7) := hB6.grown hg7 hB6.size (fun j hj => by cases hj; exact Nat.le_refl _)
        have HSp7 : Hid (Spm w7 (D.put (.string xn) (.held ⟨rK, rlo, rhi, rf, rt, ro, A7, n7, c7⟩)) (f.take (k + 1)) (fun n => if n = xn then ⟨rK, rlo, rhi, rf, rt, ro, rno⟩ else S n)) := by
          show Spm _ _ _ _
          rw [List.take_succ_eq_append_getElem hk', HX.out]
          have hlen : (f.take k).length = k := by rw [List.length_take, HN.out]; omega
          have := Spm.snoc (p := ⟨xn, xo, xk, xi, xt⟩) (A := A7) (c := c7) (hSp6.kept hM6 hg7) HA7.out (by show rno.length ≤ _; rw [hlen]; omega) (by show rno.length ≤ c7; omega) (RdK.kept hr7 hM6 hg7)
          unfold rw_ at this
          dsimp only at this
          rw [hl7] at this
          exact this
        have HM7 := Lib.hid hM7
        clear hM7 hM6 hSp6 hr7 hB6 hrun7 hg7
        go_simp
        refine hKa.out _ _ hS3 ?_
        clear hKa Ka hS2 hS3 hrun8 HA7
        refine wpAnyH_done (by kernel_rfl) ?_ _
        clear HI HX HR hml hrl hul hl5 hl7
        go_wp2_with fail
        go_roundg (n - (k + 1))
        case measure => omega
        case rel => exact ⟨k + 1, _, _, by omega, Nat.le_refl _, by go_num, HM7, HSp7, HB7⟩
    · have hkn : Hid (k = n) := by show k = n; omega
      go_wp2_with fail
      go_ret
      have hS := HS.out
      rw [hkn.out, List.take_of_length_le (by rw [HN.out]; exact Nat.le_refl _)] at hS
      exact ⟨w.heap.size, S, rfl, ⟨k, D, HO.out, by rw [HN.out]; exact hk, hS⟩, Nat.le_refl _, HB.out⟩
end Go.Proofs.YtlbendiggdmljaaGreat
namespace Go.Proofs.YtlbendiggdmljaaGreat
open Go.RowKit Go.Maps Spans Op
theorem keys_at (b : Nat) (W : World) : Calls Tryz.prog 69 #[.map (some b)] W fun e w' => e = .returned (.func (.func 108) #[] #[.pointer (some ⟨W.heap.size, 0, none⟩)]) ∧ w' = W.alloc (.cells #[.map (some b)] 54) :=
  callsIn_wide.1 (Tryz.maps_Keys_69 (some b) W)
/-- A row of texts, in a block from lo on, ahead of hi. -/
def RdS (lo hi : Nat) (w : World) (A : Option Addr) (L : List (List UInt8)) : Prop := hi ≤ w.heap.size ∧ (L = [] ∨ ∃ g, A = some ⟨g, 0, none⟩ ∧ lo ≤ g ∧ g < hi ∧ ∀ i (h : i < L.length), w.cell? ⟨g, i, none⟩ = some (.string ⟨L[i].toArray⟩))
theorem RdS.grown {lo hi : Nat} {w w' : World} {A : Option Addr} {L : List (List UInt8)} {j : Option Nat} (h : RdS lo hi w A L) (hg : w.grownBy w' j) (hj : ∀ i, j = some i → i < lo ∨ hi ≤ i) : RdS lo hi w' A L := by
  refine ⟨Nat.le_trans h.1 hg.size, ?_⟩
  rcases h.2 with h2 | ⟨g, rfl, h2, h3, hc⟩
  · exact .inl h2
  · exact .inr ⟨g, rfl, h2, h3, fun i hi => hg.cell (hc i hi) (fun e => by have := hj g e.symm; omega)⟩
theorem RdS.below {lo hi : Nat} {w w' : World} {A : Option Addr} {L : List (List UInt8)} (h : RdS lo hi w A L) (hb : Below w.heap.size w w') : RdS lo hi w' A L :=
  h.grown (j := none) ⟨hb.os, hb.tape, hb.output, hb.size, fun k hk _ => hb.block k hk⟩ (fun i hi => by cases hi)
theorem RdS.at_ {lo hi : Nat} {w : World} {A : Option Addr} {L : List (List UInt8)} (h : RdS lo hi w A L) {k : Nat} (hk : k < L.length) : ∃ g, A = some ⟨g, 0, none⟩ ∧ g < w.heap.size ∧ w.cell? ⟨g, k, none⟩ = some (.string ⟨L[k].toArray⟩) := by
  rcases h.2 with rfl | ⟨g, rfl, _, hg, hc⟩
  · simp at hk
  · exact ⟨g, rfl, Nat.lt_of_lt_of_le hg h.1, hc k hk⟩
theorem rds_of {w : World} {base : Nat} {v : Value} {n : Nat} {L : List (List UInt8)} (h : w.ownsRow base 9 1 v n (L.map encStr)) (hn : L.length = n) : ∃ A c, v = .slice A n c ∧ n ≤ c ∧ RdS base w.heap.size w A L := by
  subst hn
  rcases h.2 with ⟨rfl, h0⟩ | ⟨g, cap, cur, rfl, hbase, hb, h1, h2, h3, h4⟩
  · have h0' : L.length = 0 := h0
    exact ⟨none, 0, by rw [h0'], by omega, Nat.le_refl _, .inl (List.length_eq_zero_iff.1 h0')⟩
  · refine ⟨_, cap, rfl, h1, Nat.le_refl _, .inr ⟨g, rfl, hbase, (Array.getElem?_eq_some_iff.1 hb).1, fun i hi => ?_⟩⟩
    have hB : Blk w g 9 cur := hb
    rw [hB.cell i]
    have e1 : (cur.toList.take (L.length * 1))[i]? = (L.map encStr)[i]? := by rw [h4]
    rw [List.getElem?_take_of_lt (by omega)] at e1
    rw [← Array.getElem?_toList, e1]
    simp [hi, encStr]
set_option maxHeartbeats 1000000 in
theorem sorted_at (b m : Nat) (D : DataW Rw) (f : List Pr) (S : List UInt8 → Sp) (w : World) (ho : OwnM w b m D) (hS : Spm w D f S) (hm : m ≤ 100000) (z : Nat) (hz : w.heap.size = z) :
    Calls Tryz.prog 68 #[.func (.func 108) #[] #[.pointer (some ⟨z, 0, none⟩)]] (w.alloc (.cells #[.map (some b)] 54)) fun e w' => ∃ L A n c, e = .returned (.slice A n c) ∧ L.length = n ∧ n ≤ c ∧ n ≤ m ∧ Fil.IsNames f L ∧ RdS (z + 1) w'.heap.size w' A L ∧ Below (z + 1) (w.alloc (.cells #[.map (some b)] 54)) w' := by
  subst hz
  have hsz := World.ownsMap.size_le ho
  refine (callsIn_wide.1 (Tryz.slices_Sorted_keys_68_69 b m D elemR w ho (by rw [maxLen_num]; omega) (by omega))).mono ?_
  rintro e w' ⟨v, ss, rfl, hp, hrow, _, hb⟩
  have hl := (List.mergeSort_perm ss (fun x y => decide (x ≤ y))).length_eq
  obtain ⟨A, c, rfl, hc, hr⟩ := rds_of hrow hl
  rw [show (w.alloc (.cells #[.map (some b)] 54)).heap.size = w.heap.size + 1 by simp] at hb hr
  have hk : (strKeys D).length = Maps.size D := by
    obtain ⟨es, rfl⟩ := hS.map
    simp [strKeys, Maps.size]
  exact ⟨_, A, ss.length, c, rfl, hl, hc, by rw [hp.length_eq, hk]; exact hsz, names_of ho hS hp, hr, hb⟩
theorem orP_len (l : List Pr) (d : Pr) : (orP l d).length ≤ l.length + 1 := by
  unfold orP
  split
  · simp
  · omega
theorem prs_len (n : List UInt8) (a : Sp) : (prs n a).length ≤ a.no.length + 3 := by
  have h1 : (frmP n a).length ≤ 1 := by
    unfold frmP
    repeat' split
    all_goals simp
  have h2 : (toP n a).length ≤ 1 := by
    unfold toP
    repeat' split
    all_goals simp
  have h3 : (loP n a).length ≤ 1 := by unfold loP; split <;> simp
  have h4 : (hiP n a).length ≤ 1 := by unfold hiP; split <;> simp
  have h5 : (noP n a).length = a.no.length := by simp [noP]
  unfold prs predsOf
  repeat' split
  all_goals first
    | (simp; done)
    | (refine Nat.le_trans (orP_len _ _) ?_; simp only [List.length_append]; omega)
    | (simp only [List.length_append, List.length_cons, List.length_nil]; omega)
/-- What predsOf tells. -/
def Toldq (w : World) (f : List Pr) (S : List UInt8 → Sp) (e : Ending) (w' : World) : Prop := ∃ L A n c, e = .returned (.slice A n c) ∧ Fil.IsNames f L ∧ (L.flatMap fun n => prs n (S n)).length = n ∧ n ≤ c ∧ n ≤ 11000 ∧ OwnQ w' w.heap.size (.slice A n c) (L.flatMap fun n => prs n (S n)) ∧ Below w.heap.size w w'
theorem flat_len {S : List UInt8 → Sp} : ∀ (L : List (List UInt8)), (∀ n ∈ L, (S n).no.length ≤ 100) → (L.flatMap fun n => prs n (S n)).length ≤ L.length * 103
  | [], _ => by simp
  | x :: L, h => by
    have h1 := flat_len L fun n hn => h n (List.mem_cons_of_mem _ hn)
    have h2 := prs_len x (S x)
    have h3 := h x (by simp)
    rw [List.flatMap_cons, List.length_append, List.length_cons]
    omega
set_option maxRecDepth 100000 in
set_option maxHeartbeats 4000000 in
theorem predsOf_at (b : Nat) (f : List Pr) (S : List UInt8 → Sp) (w : World) (h : SpMap w b f S) (hm : f.length ≤ 100) (hl : PBd f) :
    Calls Tryz.prog 38 #[.map (some b)] w (Toldq w f S) := by
  obtain ⟨m, D, hown, hmf, hS⟩ := h
  have hb0 : Below w.heap.size w (w.alloc (.cells #[] 35)) := (Below.refl _ _).alloc (Nat.le_refl _) _
  have HO1 : Hid (OwnM _ _ _ _) := Lib.hid (World.ownsMap.alloc hown (.cells #[] 35))
  have HS1 := Lib.hid (hS.below hb0)
  have HB1 := Lib.hid hb0
  have HW1 : Hid (OwnQ (w.alloc (.cells #[] 35)) w.heap.size (.slice (some ⟨w.heap.size, 0, none⟩) 0 0) []) := OwnK.empty (L := layP) w w.heap.size (Nat.le_refl _)
  have HLL := Lib.hid hl
  have HO : Hid (OwnM w b m D) := hown
  have HSw := Lib.hid hS
  clear hS hown hl hb0
  go_enter Tryz.func38, Tryz.ntmps38
  go_wp2_with fail
  refine (keys_at b _).mono ?_
  rintro e w2 ⟨rfl, hw2⟩
  have hs1 : (w.alloc (.cells #[] 35)).heap.size = w.heap.size + 1 := by simp
  generalize w.alloc (.cells #[] 35) = w1 at *
  subst hw2
  go_wp2_with fail
  refine (sorted_at b m D f S w1 HO1.out HS1.out (by omega) (w.heap.size + 1) hs1).mono ?_
  rintro e w3 ⟨L, A, n, c, rfl, hL, hnc, hnm, hnm2, hrd, hb3⟩
  have hb2 : Below w1.heap.size w1 (w1.alloc (.cells #[.map (some b)] 54)) := (Below.refl _ _).alloc (Nat.le_refl _) _
  have hb4 : Below w1.heap.size w1 w3 := hb2.trans (hb3.mono (by omega))
  have HN := Lib.hid hL
  have HNM := Lib.hid hnm2
  have HB3 := Lib.hid (below_next HB1.out (by omega) hb4)
  have HW3 := Lib.hid (OwnK.below HW1.out hb4)
  have HR3 := Lib.hid hrd
  have hs3 : w.heap.size + 1 < w3.heap.size := by have := hb4.size; have := hb3.size; simp at this; omega
  obtain ⟨T3, hT3⟩ : ∃ T3, w3.heap.size = T3 := ⟨_, rfl⟩
  rw [hT3] at HR3 hs3
  clear HO1 HS1 HB1 HW1 hb2 hb3 hb4 hrd hL hnm2 hT3
  go_wp2_with fail
  clear hs1
  go_loopg [3, 11] n (fun gg s3 s11 wr => ∃ (k : Nat), k ≤ n ∧ n - k ≤ gg ∧ s11 = .int .i64 (k : Int) ∧ Hid (RdS (w.heap.size + 1 + 1) T3 wr A L) ∧ Hid (Below w.heap.size w wr) ∧ Hid (OwnQ wr w.heap.size s3 ((L.take k).flatMap fun n => prs n (S n))) ∧ Hid (∀ j, s3.ownBlock = some j → j = w.heap.size ∨ T3 ≤ j))
  case atStart => exact ⟨0, Nat.zero_le _, by omega, rfl, HR3, HB3, HW3, fun j hj => .inl (by simpa [Value.ownBlock] using hj.symm)⟩
  case round =>
    obtain ⟨k, hk, hgg, rfl, HR, HB, HW, HJ⟩ := hrel
    clear HR3 HB3 HW3
    by_cases hlt : k < n
    · have hk' : k < L.length := by rw [HN.out]; exact hlt
      obtain ⟨g, rfl, hg, c0⟩ := HR.out.at_ hk'
      obtain ⟨x, hx⟩ : ∃ x, L[k] = x := ⟨_, rfl⟩
      have hax : Fil.Asked f x := (HNM.out.2 x).1 (by rw [← hx]; exact List.getElem_mem hk')
      have HX := Lib.hid hx
      rw [hx] at c0
      clear hx
      have hxl : x.length ≤ 100 := by obtain ⟨p, hp, e⟩ := hax; rw [← e]; exact (HLL.out p hp).1
      have hbw : Below w.heap.size w wr := HB.out
      obtain ⟨hal, hnl, Ax, cx, hat, hcx, hrx⟩ := (HSw.out.below hbw).all x hax
      have hlook : (Instr.lookup 54 (.map (some b)) (.string ⟨x.toArray⟩) false).run Tryz.prog wr = .ok (.agg #[.int .i64 (S x).kind, .int .i64 (S x).lo, .int .i64 (S x).hi, .string ⟨(S x).frm.toArray⟩, .string ⟨(S x).to_.toArray⟩, .bool (S x).opn, .slice Ax (S x).no.length cx]) wr := (look_yes (OwnM.below HO.out hbw) (by omega) hat).2
      have w5 : (k : Int) < (n : Int) := by omega
      have HC := Lib.hid hal.1
      have hnl' : (S x).no.length ≤ 100 := by omega
      have HFL : Hid (((L.take k).flatMap fun n => prs n (S n)).length ≤ 10300) := by
        have h1 := flat_len (S := S) (L.take k) fun y hy => by
          have hy' : Fil.Asked f y := (HNM.out.2 y).1 (List.mem_of_mem_take hy)
          have := (HSw.out.all y hy').2.1
          omega
        have h2 : (L.take k).length ≤ 100 := by rw [List.length_take]; omega
        show _ ≤ _
        omega
      have HPL := Lib.hid (prs_len x (S x))
      have hsz : w.heap.size ≤ wr.heap.size := hbw.size
      clear hal hnl hat hbw
      go_wp2_with fail
      refine (preds_at x (S x) HC.out Ax _ cx wr rfl (by omega) hrx (by omega) _ rfl).mono ?_
      rintro e w4 ⟨v4, rfl, ho4, hb4⟩
      obtain ⟨A4, c4, rfl, hc4, hr4⟩ := OwnK.rd ho4
      have hW4 := OwnK.below HW.out hb4
      have HB4 := Lib.hid (below_next HB.out (by have := HB.out.size; omega) hb4)
      have HR4 := Lib.hid (HR.out.below hb4)
      have hz4 : T3 ≤ w4.heap.size := HR4.out.1
      have hb4s := hb4.size
      clear ho4 hb4 hlook c0 hrx HR HB HW
      obtain ⟨lk, hlk⟩ : ∃ l, ((L.take k).flatMap fun n => prs n (S n)) = l := ⟨_, rfl⟩
      have HLK := Lib.hid hlk
      rw [hlk] at hW4 HFL
      clear hlk
      obtain ⟨l4, hl4⟩ : ∃ l, prs x (S x) = l := ⟨_, rfl⟩
      have HL4 := Lib.hid hl4
      rw [hl4] at hr4 hc4 HPL
      clear hl4
      go_wp2_with (at_builtin; refine wpList_append_k layP (by rfl) (.tmp 15) (.tmp 20) 22 underQ rfl w.heap.size _ lk (by rfl) hW4 A4 l4 l4.length c4 (by rw [← HL4.out]; rfl) hr4 rfl (by rw [maxLen_num]; have := HFL.out; have := HPL.out; omega) (by show (lk.length + l4.length) * 56 ≤ _; have := HFL.out; have := HPL.out; omega) (by omega) ?_; intro v6 w6 ho6 hB6 hg6 hl6)
      have HB6 := Lib.hid (hB6 w HB4.out)
      have HR6 := Lib.hid (HR4.out.grown hg6 (fun i hi => by rcases HJ.out i hi with e | e <;> omega))
      have HJ6 : Hid (∀ j, v6.ownBlock = some j → j = w.heap.size ∨ T3 ≤ j) := fun j hj => by
        rcases hl6 with e | e
        · exact HJ.out j (by rw [← e]; exact hj)
        · rw [e] at hj; injection hj with hj; right; omega
      have HW6 : Hid (OwnQ w6 w.heap.size v6 ((L.take (k + 1)).flatMap fun n => prs n (S n))) := by
        show OwnK _ _ _ _ _
        rw [List.take_succ_eq_append_getElem hk', HX.out, List.flatMap_append, HLK.out, List.flatMap_singleton, HL4.out]
        exact ho6
      clear hB6 hg6 hl6 ho6 HR4 HB4 hr4 hW4
      go_wp2_with fail
      go_roundg (n - (k + 1))
      case measure => omega
      case rel => exact ⟨k + 1, by omega, Nat.le_refl _, by go_num, HR6, HB6, HW6, HJ6⟩
    · have hkn : Hid (k = n) := by show k = n; omega
      have hw := HW.out
      rw [hkn.out, List.take_of_length_le (by rw [HN.out]; exact Nat.le_refl _)] at hw
      obtain ⟨A9, c9, hv9, hc9, _⟩ := OwnK.rd hw
      subst hv9
      have HW9 := Lib.hid hw
      clear hw HW
      go_wp2_with fail
      go_ret
      have h1 := flat_len (S := S) L fun y hy => by
        have := (HSw.out.all y ((HNM.out.2 y).1 hy)).2.1
        omega
      have h2 := HN.out
      exact ⟨L, A9, _, c9, rfl, HNM.out, rfl, hc9, by omega, HW9.out, HB.out⟩
end Go.Proofs.YtlbendiggdmljaaGreat
namespace Go.Proofs.YtlbendiggdmljaaGreat
open Go.RowKit Go.Maps Spans Op
theorem prs_out {f : List Pr} {S : List UInt8 → Sp} {L : List (List UInt8)} (hL : Fil.IsNames f L) (hr : Fil.AllRight f) : (L.flatMap fun n => prs n (S n)) = Fil.outOf L S := by
  unfold Fil.outOf
  rw [List.flatMap_def, List.flatMap_def]
  refine congrArg _ (List.map_congr_left fun n hn => ?_)
  unfold prs
  rw [if_pos (Fil.name_len hr ((hL.2 n).1 hn))]
/-- What Norm tells. -/
def Normed (w : World) (f : List Pr) (e : Ending) (w' : World) : Prop :=
  ∃ (out : List Pr) (er : Int) (A : Option Addr) (n c : Nat), e = .returned (.tuple #[.slice A n c, .int .i64 er]) ∧ Fil.NormIs f out er ∧ out.length = n ∧ n ≤ c ∧ OwnQ w' w.heap.size (.slice A n c) out ∧ Below w.heap.size w w'
theorem normed_none {w w' : World} {f : List Pr} {er : Int} (h : Fil.NormIs f [] er) (hb : Below w.heap.size w w') : Normed w f (.returned (.tuple #[.slice none 0 0, .int .i64 er])) w' :=
  ⟨[], er, none, 0, 0, rfl, h, rfl, Nat.le_refl _, OwnK.none_ _ _, hb⟩
set_option maxRecDepth 100000 in
set_option maxHeartbeats 2000000 in
theorem norm_at (A : Option Addr) (f : List Pr) (n c : Nat) (hn : f.length = n) (hm : n ≤ 100) (hl : PBd f) (w : World) (hr : RdQ w A f) :
    Calls Tryz.prog 12 #[.slice A n c] w (Normed w f) := by
  have HN := Lib.hid hn
  have HLL := Lib.hid hl
  have HR := Lib.hid hr
  clear hn hl hr
  by_cases h24 : n ≤ 24
  · have v1 : ¬ (24 : Int) < (n : Int) := by omega
    go_enter Tryz.func12, Tryz.ntmps12
    go_wp2_with fail
    by_cases hA : Fil.AllRight f
    · refine (allRight_at A f n c HN.out (by omega) HLL.out w HR.out true (decide_eq_true hA)).mono ?_
      rintro e w1 ⟨rfl, hb1⟩
      have HA := Lib.hid hA
      have HB1 := Lib.hid hb1
      clear hA hb1
      go_wp2_with fail
      refine (spansOf_at A f n c HN.out hm HLL.out w1 (RdK.below HR.out HB1.out)).mono ?_
      rintro e w2 ⟨b, S, rfl, hsp, _, hb2⟩
      have HB2 := Lib.hid (below_next HB1.out (Nat.le_refl _) hb2)
      have HSP := Lib.hid hsp
      have HIS : Hid (Fil.IsSpans f S) := by obtain ⟨_, _, _, _, h⟩ := hsp; exact h.spans
      clear hb2 hsp HB1
      go_wp2_with fail
      by_cases hV : Fil.Void f S
      · refine (anyEmpty_at b f S w2 HSP.out true (decide_eq_true hV)).mono ?_
        rintro e w3 ⟨rfl, hb3⟩
        have HV := Lib.hid hV
        have HB3 := Lib.hid (below_next HB2.out (Nat.le_refl _) hb3)
        obtain ⟨m, D, ho, _, hs⟩ := HSP.out
        have HL := Lib.hid (names_of ho hs (List.Perm.refl _))
        clear hV hb3 ho hs
        go_wp2_with fail
        go_ret2
        exact normed_none (.inr (.inr ⟨⟨by rw [HN.out]; exact h24, HA.out⟩, S, _, HIS.out, HL.out, .inl ⟨HV.out, rfl, rfl⟩⟩)) HB3.out
      · refine (anyEmpty_at b f S w2 HSP.out false (decide_eq_false hV)).mono ?_
        rintro e w3 ⟨rfl, hb3⟩
        have HV := Lib.hid hV
        have HB3 := Lib.hid (below_next HB2.out (Nat.le_refl _) hb3)
        have HSP3 := Lib.hid (HSP.out.below hb3)
        clear hV hb3
        go_wp2_with fail
        refine (predsOf_at b f S w3 HSP3.out (by rw [HN.out]; exact hm) HLL.out).mono ?_
        rintro e w4 ⟨L, A4, n4, c4, rfl, hL, hl4, hc4, h11, ho4, hb4⟩
        rw [prs_out hL HA.out] at hl4 ho4
        have HB4 := Lib.hid (below_next HB3.out (Nat.le_refl _) hb4)
        have HL := Lib.hid hL
        have HL4 := Lib.hid hl4
        have HO4 := Lib.hid (ho4.less (by have := HB3.out.size; omega : w.heap.size ≤ w3.heap.size))
        clear hL hl4 ho4 hb4
        by_cases hbig : 24 < n4
        · have v2 : (24 : Int) < (n4 : Int) := by omega
          have HBG := Lib.hid hbig
          clear hbig
          go_wp2_with fail
          go_ret2
          exact normed_none (.inr (.inr ⟨⟨by rw [HN.out]; exact h24, HA.out⟩, S, L, HIS.out, HL.out, .inr (.inl ⟨HV.out, by rw [HL4.out]; exact HBG.out, rfl, rfl⟩)⟩)) HB4.out
        · have v2 : ¬ (24 : Int) < (n4 : Int) := by omega
          have HBG := Lib.hid hbig
          clear hbig
          go_wp2_with fail
          go_ret2
          exact ⟨_, 0, A4, n4, c4, rfl, .inr (.inr ⟨⟨by rw [HN.out]; exact h24, HA.out⟩, S, L, HIS.out, HL.out, .inr (.inr ⟨HV.out, by rw [HL4.out]; have := HBG.out; omega, rfl, rfl⟩)⟩), HL4.out, hc4, HO4.out, HB4.out⟩
    · refine (allRight_at A f n c HN.out (by omega) HLL.out w HR.out false (decide_eq_false hA)).mono ?_
      rintro e w1 ⟨rfl, hb1⟩
      have HA := Lib.hid hA
      have HB1 := Lib.hid hb1
      clear hA hb1
      go_wp2_with fail
      go_ret2
      exact normed_none (.inr (.inl ⟨by rw [HN.out]; exact h24, HA.out, rfl, rfl⟩)) HB1.out
  · have v1 : (24 : Int) < (n : Int) := by omega
    go_enter Tryz.func12, Tryz.ntmps12
    go_wp2_with fail
    go_ret2
    exact normed_none (.inl ⟨by rw [HN.out]; omega, rfl, rfl⟩) (Below.refl _ _)
/-- A call that tells if something is so. -/
def Tells (w : World) (P : Prop) (e : Ending) (w' : World) : Prop := ∃ q : Bool, e = .returned (.bool q) ∧ (q = true ↔ P) ∧ Below w.heap.size w w'
set_option maxRecDepth 100000 in
set_option maxHeartbeats 2000000 in
theorem fright_at (A : Option Addr) (f : List Pr) (n c : Nat) (hn : f.length = n) (hm : n ≤ 100) (hl : PBd f) (w : World) (hr : RdQ w A f) :
    Calls Tryz.prog 15 #[.slice A n c] w (Tells w (Fil.NormIs f f 0)) := by
  have HN := Lib.hid hn
  have HLL := Lib.hid hl
  have HR := Lib.hid hr
  clear hn hl hr
  go_enter Tryz.func15, Tryz.ntmps15
  go_wp2_with fail
  refine (norm_at A f n c HN.out hm HLL.out w HR.out).mono ?_
  rintro e w1 ⟨out, er, A1, n1, c1, rfl, hno, hl1, hc1, ho1, hb1⟩
  have HNO := Lib.hid hno
  have HL1 := Lib.hid hl1
  have HO1 := Lib.hid ho1
  have HB1 := Lib.hid hb1
  clear hno hl1 ho1 hb1
  by_cases he : er = 0
  · subst he
    have hlen : n1 ≤ 100000 := by
      rw [← HL1.out]
      obtain ⟨S, L, hg⟩ := HNO.out.good
      have := hg.len
      omega
    go_wp2_with fail
    obtain ⟨_, _, hr1, _, hrd⟩ := OwnK.rd HO1.out
    injection hr1 with e1 e2 e3
    subst e1
    refine (equalP_at A1 out n1 c1 HL1.out hlen A f n c HN.out (by omega) w1 hrd (RdK.below HR.out HB1.out) _ rfl).mono ?_
    rintro e w2 ⟨rfl, hg2⟩
    have HB2 := Lib.hid (below_next HB1.out (Nat.le_refl _) hg2.below)
    clear hg2 hrd e2 e3
    go_wp2_with fail
    go_ret
    refine ⟨_, rfl, ?_, HB2.out⟩
    rw [decide_eq_true_iff]
    exact ⟨fun h => by have := HNO.out; rwa [h] at this, fun h => (HNO.out.one h).1⟩
  · have v1 : (er == 0) = false := beq_eq_false_iff_ne.2 he
    have HE := Lib.hid he
    clear he
    go_wp2_with fail
    go_ret
    exact ⟨false, rfl, ⟨fun h => (by cases h), fun h => absurd (HNO.out.one h).2 HE.out⟩, HB1.out⟩
set_option maxRecDepth 100000 in
set_option maxHeartbeats 1000000 in
theorem fmeets_at (A : Option Addr) (f : List Pr) (n c : Nat) (hn : f.length = n) (hm : n ≤ 100000) (hl : PBd f) (B : Option Addr) (es : List Ev.At) (m d : Nat) (hes : es.length = m) (hml : m ≤ maxLen) (hbd : ∀ a ∈ es, a.n.length ≤ maxLen ∧ a.t.length ≤ maxLen) (w : World) (hr : RdQ w A f) (hr' : RdA w B es) (q : Bool) (hq : Fil.meets f es = q) :
    Calls Tryz.prog 17 #[.slice A n c, .slice B m d] w fun e w' => e = .returned (.bool q) ∧ Below w.heap.size w w' := by
  subst hq
  have HN := Lib.hid hn
  have HLL := Lib.hid hl
  have HR := Lib.hid hr
  have HR' := Lib.hid hr'
  have HE := Lib.hid hes
  have HM := Lib.hid hml
  have HBD := Lib.hid hbd
  clear hn hl hr hr' hes hml hbd
  go_enter Tryz.func17, Tryz.ntmps17
  go_wp2_with fail
  go_loopg [9] n (fun gg s9 wr => ∃ k : Nat, k ≤ n ∧ n - k ≤ gg ∧ s9 = .int .i64 (k : Int) ∧ Hid (Below w.heap.size w wr) ∧ Hid (Fil.meets (f.take k) es = true))
  case atStart => exact ⟨0, Nat.zero_le _, by omega, rfl, Below.refl _ _, by show _ = _; simp [Fil.meets]⟩
  case round =>
    obtain ⟨k, hk, hgg, rfl, HB, HA⟩ := hrel
    by_cases hlt : k < n
    · have hk' : k < f.length := by rw [HN.out]; exact hlt
      have hpl := HLL.out _ (List.getElem_mem hk')
      obtain ⟨g, off, rfl, hg, c0, c1, c2, c3, c4⟩ := RdQ.at5 (RdK.below HR.out HB.out) hk'
      obtain ⟨x, hx⟩ : ∃ x, f[k] = x := ⟨_, rfl⟩
      have HX := Lib.hid hx
      rw [hx] at c0 c1 c2 c3 c4 hpl
      clear hx HLL
      obtain ⟨xn, xo, xk, xi, xt⟩ := x
      obtain ⟨hp1, hp2, hp3, hp4⟩ := hpl
      dsimp only at hp1 hp2 hp3 hp4 c0 c1 c2 c3 c4
      have w5 : (k : Int) < (n : Int) := by omega
      have hb1 := HB.out.alloc (by have := HB.out.size; omega) (.cells #[.string ⟨xn.toArray⟩, .int .i64 xo, .int .i64 xk, .int .i64 xi, .string ⟨xt.toArray⟩] 35)
      have HB1 := Lib.hid hb1
      have HRE := Lib.hid (HR'.out.below hb1)
      clear hb1
      cases hq : meetsV es xn xo xk xi xt with
      | true =>
        have HQ := Lib.hid hq
        clear hq
        go_wp2_with fail
        refine (meets_is xn xo xk xi xt B es m d _ HE.out HM.out HBD.out (by omega) (by omega) HRE.out true HQ.out).mono ?_
        rintro e w2 ⟨rfl, hb2⟩
        have HB2 := Lib.hid (below_next HB1.out (by have := HB1.out.size; omega) hb2)
        have HA2 : Hid (Fil.meets (f.take (k + 1)) es = true) := by
          show _ = _
          rw [List.take_succ_eq_append_getElem hk', HX.out]
          have h1 := HA.out
          unfold Fil.meets at *
          rw [List.all_append, h1]
          simp [HQ.out]
        clear hb2 c0 c1 c2 c3 c4 HRE
        go_wp2_with fail
        go_roundg (n - (k + 1))
        case measure => omega
        case rel => exact ⟨k + 1, by omega, Nat.le_refl _, by go_num, HB2, HA2⟩
      | false =>
        have HQ := Lib.hid hq
        clear hq
        go_wp2_with fail
        refine (meets_is xn xo xk xi xt B es m d _ HE.out HM.out HBD.out (by omega) (by omega) HRE.out false HQ.out).mono ?_
        rintro e w2 ⟨rfl, hb2⟩
        have HB2 := Lib.hid (below_next HB1.out (by have := HB1.out.size; omega) hb2)
        have HF : Hid (Fil.meets f es = false) := by
          show _ = _
          unfold Fil.meets
          rw [List.all_eq_false]
          exact ⟨_, List.getElem_mem hk', by rw [HX.out]; simp [HQ.out]⟩
        clear hb2 c0 c1 c2 c3 c4 HRE
        go_wp2_with fail
        go_ret
        exact ⟨ret_b HF.out.symm, HB2.out⟩
    · have hkn : Hid (k = n) := by show k = n; omega
      go_wp2_with fail
      go_ret
      refine ⟨ret_b ?_, HB.out⟩
      have := HA.out
      rw [hkn.out, List.take_of_length_le (by rw [HN.out]; exact Nat.le_refl _)] at this
      exact this.symm
end Go.Proofs.YtlbendiggdmljaaGreat
namespace Go.Proofs.YtlbendiggdmljaaGreat
open Go.RowKit Go.Maps Spans Op
theorem tells_no {w w' : World} {P : Prop} (h : ¬ P) (hb : Below w.heap.size w w') : Tells w P (.returned (.bool false)) w' := ⟨false, rfl, ⟨fun k => (by cases k), fun k => absurd k h⟩, hb⟩
theorem tells_yes {w w' : World} {P : Prop} (h : P) (hb : Below w.heap.size w w') : Tells w P (.returned (.bool true)) w' := ⟨true, rfl, ⟨fun _ => h, fun _ => rfl⟩, hb⟩
set_option maxRecDepth 100000 in
set_option maxHeartbeats 4000000 in
theorem covers_at (A : Option Addr) (f : List Pr) (n c : Nat) (hn : f.length = n) (hm : n ≤ 100) (hl : PBd f) (A' : Option Addr) (g : List Pr) (n' c' : Nat) (hn' : g.length = n') (hm' : n' ≤ 100) (hl' : PBd g) (w : World) (hr : RdQ w A f) (hr' : RdQ w A' g) :
    Calls Tryz.prog 19 #[.slice A n c, .slice A' n' c'] w (Tells w (Fil.Cov f g)) := by
  have HN := Lib.hid hn
  have HN' := Lib.hid hn'
  have HLL := Lib.hid hl
  have HLL' := Lib.hid hl'
  have HR := Lib.hid hr
  have HR' := Lib.hid hr'
  clear hn hl hr hn' hl' hr'
  go_enter Tryz.func19, Tryz.ntmps19
  go_wp2_with fail
  by_cases hF : Fil.Sound f
  · refine (sound_at A f n c HN.out (by omega) HLL.out w HR.out true (decide_eq_true hF)).mono ?_
    rintro e w1 ⟨rfl, hb1⟩
    have HF := Lib.hid hF
    have HB1 := Lib.hid hb1
    clear hF hb1
    go_wp2_with fail
    by_cases hG : Fil.Sound g
    · refine (sound_at A' g n' c' HN'.out (by omega) HLL'.out w1 (RdK.below HR'.out HB1.out) true (decide_eq_true hG)).mono ?_
      rintro e w2 ⟨rfl, hb2⟩
      have HG := Lib.hid hG
      have HB2 := Lib.hid (below_next HB1.out (Nat.le_refl _) hb2)
      clear hG hb2 HB1
      go_wp2_with fail
      refine (spansOf_at A f n c HN.out hm HLL.out w2 (RdK.below HR.out HB2.out)).mono ?_
      rintro e w3 ⟨b, S, rfl, hsp, _, hb3⟩
      have HB3 := Lib.hid (below_next HB2.out (Nat.le_refl _) hb3)
      have HSP := Lib.hid hsp
      clear hb3 hsp HB2
      go_wp2_with fail
      refine (spansOf_at A' g n' c' HN'.out hm' HLL'.out w3 (RdK.below HR'.out HB3.out)).mono ?_
      rintro e w4 ⟨b', T, rfl, hsp', _, hb4⟩
      have HB4 := Lib.hid (below_next HB3.out (Nat.le_refl _) hb4)
      have HSP4 := Lib.hid (HSP.out.below hb4)
      have HSP' := Lib.hid hsp'
      clear hb4 hsp' HB3 HSP
      have HCW : Hid (Fil.Cov f g ↔ Fil.Sound f ∧ Fil.Sound g ∧ (Fil.Void g T ∨ ∀ n, Fil.Asked f n → Fil.Asked g n ∧ inn (T n) (S n) = true)) := by
        obtain ⟨_, _, _, _, h1⟩ := HSP4.out
        obtain ⟨_, _, _, _, h2⟩ := HSP'.out
        exact Fil.cov_with h1.spans h2.spans
      go_wp2_with fail
      by_cases hV : Fil.Void g T
      · refine (anyEmpty_at b' g T w4 HSP'.out true (decide_eq_true hV)).mono ?_
        rintro e w5 ⟨rfl, hb5⟩
        have HV := Lib.hid hV
        have HB5 := Lib.hid (below_next HB4.out (Nat.le_refl _) hb5)
        clear hV hb5
        go_wp2_with fail
        go_ret
        exact tells_yes (HCW.out.2 ⟨HF.out, HG.out, .inl HV.out⟩) HB5.out
      · refine (anyEmpty_at b' g T w4 HSP'.out false (decide_eq_false hV)).mono ?_
        rintro e w5 ⟨rfl, hb5⟩
        have HV := Lib.hid hV
        have HB5 := Lib.hid (below_next HB4.out (Nat.le_refl _) hb5)
        have HSP5 := Lib.hid (HSP4.out.below hb5)
        have HSP5' := Lib.hid (HSP'.out.below hb5)
        clear hV hb5 HSP4 HSP' HB4
        obtain ⟨m, D, hown, hmf, hS⟩ := HSP5.out
        obtain ⟨m', D', hown', hmf', hT⟩ := HSP5'.out
        have HS := Lib.hid hS
        have HT := Lib.hid hT
        have HO' : Hid (OwnM w5 b' m' D') := hown'
        have HMF : Hid (f.length ≤ 24) := HF.out.1
        have HMG : Hid (g.length ≤ 24) := HG.out.1
        clear hS hT hown' HSP5 HSP5'
        go_wp2_with (first | (at_range; refine wpList_range_own _ rfl _ 54 rfl 9 64 lawS Tryz.underlying54 _ b m _ rfl hown ?_; intro w6 hrg0 hg0 hs0) | go_in)
        go_frame
        go_loopw [7] (fun _ wr => ∃ (left : Lit → Bool) (cnt : Nat), wr.ranges Tryz.prog 9 elemR b w5.heap.size m D left cnt ∧ Hid (∀ n, Fil.Asked f n → left (.string n) = false → Fil.Asked g n ∧ inn (T n) (S n) = true) ∧ Hid (Below w5.heap.size w5 wr)) (fun _ wr => wr.rangeLeft b w5.heap.size)
        case atStart => exact ⟨_, _, hrg0, fun n hn hl => (by rw [(HS.out.has n).2 hn] at hl; cases hl), (Below.refl _ _).grown hg0 (Nat.le_refl _) (fun j hj => by cases hj)⟩
        case round =>
          obtain ⟨left, cnt, hrg, HL, HB⟩ := hrel
          clear hrg0 hg0 hs0 hown
          go_wp2_with (first | (at_next; refine wpList_next_S rfl _ rfl b w5.heap.size m D left cnt rfl hrg ?_ ?_) | go_in)
          · intro _ hl0
            have HFIN : Hid (Fil.Cov f g) := HCW.out.2 ⟨HF.out, HG.out, .inr fun n hn => HL.out n hn (hl0 _)⟩
            clear hl0 hrg
            go_wp2_with fail
            go_ret
            exact tells_yes HFIN.out (below_next HB5.out (Nat.le_refl _) HB.out)
          · intro x s w7 cnt1 hlx hat hrg1 hlt hg1 hs1 hen
            have HB7 : Hid (Below w5.heap.size w5 w7) := HB.out.grown hg1 HB.out.size (fun j hj => by cases hj; exact Nat.le_refl _)
            obtain ⟨hax, Af, cf, hsr, hcf, hrdf⟩ := (HS.out.below HB7.out).kind hat
            subst hsr
            simp only [rw_] at hen ⊢
            have hxl : x.length ≤ 100 := by obtain ⟨p, hp, e⟩ := hax; rw [← e]; exact (HLL.out p hp).1
            have HAX := Lib.hid hax
            have hrg2 := hrg1.alloc (.cells #[.int .i64 (S x).kind, .int .i64 (S x).lo, .int .i64 (S x).hi, .string ⟨(S x).frm.toArray⟩, .string ⟨(S x).to_.toArray⟩, .bool (S x).opn, .slice Af (S x).no.length cf] 64)
            have hb8 := HB7.out.alloc HB7.out.size (.cells #[.int .i64 (S x).kind, .int .i64 (S x).lo, .int .i64 (S x).hi, .string ⟨(S x).frm.toArray⟩, .string ⟨(S x).to_.toArray⟩, .bool (S x).opn, .slice Af (S x).no.length cf] 64)
            have hO8 := World.ownsMap.alloc (OwnM.below HO'.out HB7.out) (.cells #[.int .i64 (S x).kind, .int .i64 (S x).lo, .int .i64 (S x).hi, .string ⟨(S x).frm.toArray⟩, .string ⟨(S x).to_.toArray⟩, .bool (S x).opn, .slice Af (S x).no.length cf] 64)
            have hV8 := Blk.new w7 64 #[.int .i64 (S x).kind, .int .i64 (S x).lo, .int .i64 (S x).hi, .string ⟨(S x).frm.toArray⟩, .string ⟨(S x).to_.toArray⟩, .bool (S x).opn, .slice Af (S x).no.length cf]
            have hrd8 := RdK.below hrdf ((Below.refl _ _).alloc (Nat.le_refl _) (.cells #[.int .i64 (S x).kind, .int .i64 (S x).lo, .int .i64 (S x).hi, .string ⟨(S x).frm.toArray⟩, .string ⟨(S x).to_.toArray⟩, .bool (S x).opn, .slice Af (S x).no.length cf] 64))
            have HI : Hid (IsAll (Fil.of f x) (S x)) := (HS.out.all x HAX.out).1
            have hnx : (S x).no.length ≤ 100 := by have := (HS.out.all x HAX.out).2.1; have := HMF.out; omega
            clear hs1 hat hg1 hrg1 hax hrdf
            by_cases hag : Fil.Asked g x
            · obtain ⟨hIg, hng, Ag, cg, hatg, hcg, hrdg⟩ := (HT.out.below hb8).all x hag
              have hlook : (Instr.lookup 54 (.map (some b')) (.string ⟨x.toArray⟩) true).run Tryz.prog (w7.alloc (.cells #[.int .i64 (S x).kind, .int .i64 (S x).lo, .int .i64 (S x).hi, .string ⟨(S x).frm.toArray⟩, .string ⟨(S x).to_.toArray⟩, .bool (S x).opn, .slice Af (S x).no.length cf] 64)) = .ok (.tuple #[.agg #[.int .i64 (T x).kind, .int .i64 (T x).lo, .int .i64 (T x).hi, .string ⟨(T x).frm.toArray⟩, .string ⟨(T x).to_.toArray⟩, .bool (T x).opn, .slice Ag (T x).no.length cg], .bool true]) (w7.alloc (.cells #[.int .i64 (S x).kind, .int .i64 (S x).lo, .int .i64 (S x).hi, .string ⟨(S x).frm.toArray⟩, .string ⟨(S x).to_.toArray⟩, .bool (S x).opn, .slice Af (S x).no.length cf] 64)) := (look_yes hO8 (by omega) hatg).1
              have hs8 : (w7.alloc (.cells #[.int .i64 (S x).kind, .int .i64 (S x).lo, .int .i64 (S x).hi, .string ⟨(S x).frm.toArray⟩, .string ⟨(S x).to_.toArray⟩, .bool (S x).opn, .slice Af (S x).no.length cf] 64)).heap.size = w7.heap.size + 1 := by simp
              have hV9 : Blk ((w7.alloc (.cells #[.int .i64 (S x).kind, .int .i64 (S x).lo, .int .i64 (S x).hi, .string ⟨(S x).frm.toArray⟩, .string ⟨(S x).to_.toArray⟩, .bool (S x).opn, .slice Af (S x).no.length cf] 64)).alloc (.cells #[.int .i64 (T x).kind, .int .i64 (T x).lo, .int .i64 (T x).hi, .string ⟨(T x).frm.toArray⟩, .string ⟨(T x).to_.toArray⟩, .bool (T x).opn, .slice Ag (T x).no.length cg] 64)) (w7.heap.size + 1) 64 #[.int .i64 (T x).kind, .int .i64 (T x).lo, .int .i64 (T x).hi, .string ⟨(T x).frm.toArray⟩, .string ⟨(T x).to_.toArray⟩, .bool (T x).opn, .slice Ag (T x).no.length cg] := by
                have := Blk.new (w7.alloc (.cells #[.int .i64 (S x).kind, .int .i64 (S x).lo, .int .i64 (S x).hi, .string ⟨(S x).frm.toArray⟩, .string ⟨(S x).to_.toArray⟩, .bool (S x).opn, .slice Af (S x).no.length cf] 64)) 64 #[.int .i64 (T x).kind, .int .i64 (T x).lo, .int .i64 (T x).hi, .string ⟨(T x).frm.toArray⟩, .string ⟨(T x).to_.toArray⟩, .bool (T x).opn, .slice Ag (T x).no.length cg]
                rwa [hs8] at this
              have hV9' := Blk.alloc hV8 (.cells #[.int .i64 (T x).kind, .int .i64 (T x).lo, .int .i64 (T x).hi, .string ⟨(T x).frm.toArray⟩, .string ⟨(T x).to_.toArray⟩, .bool (T x).opn, .slice Ag (T x).no.length cg] 64)
              have hb9 := hb8.alloc hb8.size (.cells #[.int .i64 (T x).kind, .int .i64 (T x).lo, .int .i64 (T x).hi, .string ⟨(T x).frm.toArray⟩, .string ⟨(T x).to_.toArray⟩, .bool (T x).opn, .slice Ag (T x).no.length cg] 64)
              have hrg3 := hrg2.alloc (.cells #[.int .i64 (T x).kind, .int .i64 (T x).lo, .int .i64 (T x).hi, .string ⟨(T x).frm.toArray⟩, .string ⟨(T x).to_.toArray⟩, .bool (T x).opn, .slice Ag (T x).no.length cg] 64)
              have hbl : Below (w7.alloc (.cells #[.int .i64 (S x).kind, .int .i64 (S x).lo, .int .i64 (S x).hi, .string ⟨(S x).frm.toArray⟩, .string ⟨(S x).to_.toArray⟩, .bool (S x).opn, .slice Af (S x).no.length cf] 64)).heap.size (w7.alloc (.cells #[.int .i64 (S x).kind, .int .i64 (S x).lo, .int .i64 (S x).hi, .string ⟨(S x).frm.toArray⟩, .string ⟨(S x).to_.toArray⟩, .bool (S x).opn, .slice Af (S x).no.length cf] 64)) ((w7.alloc (.cells #[.int .i64 (S x).kind, .int .i64 (S x).lo, .int .i64 (S x).hi, .string ⟨(S x).frm.toArray⟩, .string ⟨(S x).to_.toArray⟩, .bool (S x).opn, .slice Af (S x).no.length cf] 64)).alloc (.cells #[.int .i64 (T x).kind, .int .i64 (T x).lo, .int .i64 (T x).hi, .string ⟨(T x).frm.toArray⟩, .string ⟨(T x).to_.toArray⟩, .bool (T x).opn, .slice Ag (T x).no.length cg] 64)) := (Below.refl _ _).alloc (Nat.le_refl _) _
              have HRF := Lib.hid (RdK.below hrd8 hbl)
              have HRG := Lib.hid (RdK.below hrdg hbl)
              have HIG := Lib.hid hIg
              have HAG := Lib.hid hag
              have HB9 := Lib.hid hb9
              have hng' : (T x).no.length ≤ 100 := by have := HMG.out; omega
              clear hIg hatg hrdg hrd8 hb8 hb9 hO8 hV8 hs8 hbl hag hrg2 hng
              go_wp2_with fail
              clear hlook hen hV9 hV9'
              generalize (w7.alloc (.cells #[.int .i64 (S x).kind, .int .i64 (S x).lo, .int .i64 (S x).hi, .string ⟨(S x).frm.toArray⟩, .string ⟨(S x).to_.toArray⟩, .bool (S x).opn, .slice Af (S x).no.length cf] 64)).alloc (.cells #[.int .i64 (T x).kind, .int .i64 (T x).lo, .int .i64 (T x).hi, .string ⟨(T x).frm.toArray⟩, .string ⟨(T x).to_.toArray⟩, .bool (T x).opn, .slice Ag (T x).no.length cg] 64) = w9 at *
              refine (in_at (T x) (S x) HIG.out.1 HI.out.1 Ag _ cg Af _ cf w9 rfl (by omega) rfl (by omega) HRG.out HRF.out (inn (T x) (S x)) rfl).mono ?_
              rintro e w10 ⟨rfl, hb10⟩
              have HB10 := Lib.hid (below_next HB9.out (by have := HB9.out.size; omega) hb10)
              have hrg4 := hrg3.kept (row := none) ⟨hb10.os, hb10.tape, hb10.output, hb10.size, fun k hk _ => hb10.block k hk⟩ (by simp) (by simp)
              clear hb10 hrg3 HB9 HRF HRG
              cases hin : inn (T x) (S x) with
              | false =>
                have HNC : Hid (¬ Fil.Cov f g) := fun h => by
                  obtain ⟨_, _, h2⟩ := HCW.out.1 h
                  have := ((h2.resolve_left HV.out) x HAX.out).2
                  rw [hin] at this
                  cases this
                clear hin
                go_wp2_with fail
                go_ret
                exact tells_no HNC.out (below_next HB5.out (Nat.le_refl _) HB10.out)
              | true =>
                have HL2 : Hid (∀ n, Fil.Asked f n → (left (.string n) && !(Lit.string n).sameKey (.string x)) = false → Fil.Asked g n ∧ inn (T n) (S n) = true) := fun n hn h => by
                  rcases left_next h with e | e
                  · subst e; exact ⟨HAG.out, hin⟩
                  · exact HL.out n hn e
                clear hin
                go_wp2_with fail
                go_roundw
                case rel => exact ⟨_, cnt1, hrg4, HL2, HB10⟩
                case measure => rw [hrg4.left_eq, hrg.left_eq]; exact hlt
            · have hno : Maps.has D' (.string x) = false := by
                cases h : Maps.has D' (.string x) with
                | false => rfl
                | true => exact absurd ((HT.out.has x).1 h) hag
              have hlook : (Instr.lookup 54 (.map (some b')) (.string ⟨x.toArray⟩) true).run Tryz.prog (w7.alloc (.cells #[.int .i64 (S x).kind, .int .i64 (S x).lo, .int .i64 (S x).hi, .string ⟨(S x).frm.toArray⟩, .string ⟨(S x).to_.toArray⟩, .bool (S x).opn, .slice Af (S x).no.length cf] 64)) = .ok (.tuple #[.agg #[.int .i64 0, .int .i64 0, .int .i64 0, .string ⟨#[]⟩, .string ⟨#[]⟩, .bool false, .slice none 0 0], .bool false]) (w7.alloc (.cells #[.int .i64 (S x).kind, .int .i64 (S x).lo, .int .i64 (S x).hi, .string ⟨(S x).frm.toArray⟩, .string ⟨(S x).to_.toArray⟩, .bool (S x).opn, .slice Af (S x).no.length cf] 64)) := look_no hO8 (by omega) hno
              have HNC : Hid (¬ Fil.Cov f g) := fun h => by
                obtain ⟨_, _, h2⟩ := HCW.out.1 h
                exact hag ((h2.resolve_left HV.out) x HAX.out).1
              have HB9 := Lib.hid (hb8.alloc hb8.size (.cells #[.int .i64 0, .int .i64 0, .int .i64 0, .string ⟨#[]⟩, .string ⟨#[]⟩, .bool false, .slice none 0 0] 64))
              clear hno hag hO8 hrd8 hb8 hrg2
              go_wp2_with fail
              go_ret
              exact tells_no HNC.out (below_next HB5.out (Nat.le_refl _) HB9.out)
    · refine (sound_at A' g n' c' HN'.out (by omega) HLL'.out w1 (RdK.below HR'.out HB1.out) false (decide_eq_false hG)).mono ?_
      rintro e w2 ⟨rfl, hb2⟩
      have HG := Lib.hid hG
      have HB2 := Lib.hid (below_next HB1.out (Nat.le_refl _) hb2)
      clear hG hb2 HB1
      go_wp2_with fail
      go_ret
      exact tells_no (fun h => HG.out h.2.1) HB2.out
  · refine (sound_at A f n c HN.out (by omega) HLL.out w HR.out false (decide_eq_false hF)).mono ?_
    rintro e w1 ⟨rfl, hb1⟩
    have HF := Lib.hid hF
    have HB1 := Lib.hid hb1
    clear hF hb1
    go_wp2_with fail
    go_ret
    exact tells_no (fun h => HF.out h.1) HB1.out
/-- There are spans, and names. -/
def SpanEx (f : List Pr) : Prop := ∃ S L, Fil.IsSpans f S ∧ Fil.IsNames f L
theorem PBd.app {f g : List Pr} (h : PBd f) (k : PBd g) : PBd (f ++ g) := fun p hp => by
  rcases List.mem_append.1 hp with hp | hp
  · exact h p hp
  · exact k p hp
set_option maxRecDepth 100000 in
set_option maxHeartbeats 4000000 in
theorem crosses_w (A : Option Addr) (f : List Pr) (n c : Nat) (hn : f.length = n) (hm : n ≤ 50) (hl : PBd f) (A' : Option Addr) (g : List Pr) (n' c' : Nat) (hn' : g.length = n') (hm' : n' ≤ 50) (hl' : PBd g) (w : World) (hr : RdQ w A f) (hr' : RdQ w A' g) :
    Calls Tryz.prog 21 #[.slice A n c, .slice A' n' c'] w (fun e w' => Tells w (Fil.Cross f g) e w' ∧ (Fil.Sound f → Fil.Sound g → SpanEx (f ++ g))) := by
  have HN := Lib.hid hn
  have HN' := Lib.hid hn'
  have HLL := Lib.hid hl
  have HLL' := Lib.hid hl'
  have HR := Lib.hid hr
  have HR' := Lib.hid hr'
  clear hn hl hr hn' hl' hr'
  go_enter Tryz.func21, Tryz.ntmps21
  go_wp2_with fail
  by_cases hF : Fil.Sound f
  · refine (sound_at A f n c HN.out (by omega) HLL.out w HR.out true (decide_eq_true hF)).mono ?_
    rintro e w1 ⟨rfl, hb1⟩
    have HF := Lib.hid hF
    have HB1 := Lib.hid hb1
    clear hF hb1
    go_wp2_with fail
    by_cases hG : Fil.Sound g
    · refine (sound_at A' g n' c' HN'.out (by omega) HLL'.out w1 (RdK.below HR'.out HB1.out) true (decide_eq_true hG)).mono ?_
      rintro e w2 ⟨rfl, hb2⟩
      have HG := Lib.hid hG
      have HB2 := Lib.hid (below_next HB1.out (Nat.le_refl _) hb2)
      have hB3 := Blk.new w2 22 #[.slice A n c, .slice A' n' c']
      have HB3 := Lib.hid (HB2.out.alloc HB2.out.size (.cells #[.slice A n c, .slice A' n' c'] 22))
      clear hG hb2 HB1
      have HBK := Lib.hid hB3
      clear hB3
      go_wp2_with fail
      refine (concatP_at w2.heap.size A n c A' n' c' _ f g HN.out (by omega) HN'.out (by omega) (RdK.below HR.out HB3.out) (RdK.below HR'.out HB3.out) HBK.out.lt (HBK.out.cell 0) (HBK.out.cell 1)).mono ?_
      generalize w2.alloc (.cells #[.slice A n c, .slice A' n' c'] 22) = w3 at *
      rintro e w4 ⟨v, rfl, ho4, hb4⟩
      have hlen : (f ++ g).length = n + n' := by rw [List.length_append, HN.out, HN'.out]
      obtain ⟨A4, c4, rfl, hc4, hr4⟩ := OwnK.form ho4 hlen
      have HLEN := Lib.hid hlen
      have HB4 := Lib.hid (below_next HB3.out (by have := HB3.out.size; omega) hb4)
      have HR4 := Lib.hid hr4
      clear ho4 hb4 hr4 hlen HB3 HBK
      go_wp2_with fail
      refine (spansOf_at A4 (f ++ g) (n + n') c4 HLEN.out (by omega) (HLL.out.app HLL'.out) w4 HR4.out).mono ?_
      rintro e w5 ⟨b, S, rfl, hsp, _, hb5⟩
      have HB5 := Lib.hid (below_next HB4.out (by have := HB4.out.size; omega) hb5)
      have HSP := Lib.hid hsp
      obtain ⟨m, D, hown, hmf, hS⟩ := hsp
      have hnm := names_of hown hS (List.Perm.refl _)
      have hsz : ((strKeys D).mergeSort (fun x y => decide (x ≤ y))).length = Maps.size D := by
        rw [(List.mergeSort_perm _ _).length_eq]
        obtain ⟨es, rfl⟩ := hS.map
        simp [strKeys, Maps.size]
      obtain ⟨z, hz⟩ : ∃ z, Maps.size D = z := ⟨_, rfl⟩
      have HEX : Hid (SpanEx (f ++ g)) := ⟨_, _, hS.spans, hnm⟩
      have hcw := Fil.cross_with hS.spans hnm
      rw [hsz, hz] at hcw
      have HCW := Lib.hid hcw
      have hlen5 : ∀ ty, (Builtin.len_ #[54] ty #[.map (some b)]).run Tryz.prog w5 = .ok (.int .i64 (z : Int)) w5 := fun ty => by
        have := World.ownsMap.len hown Tryz.underlying54 ty
        rwa [hz] at this
      have hzm : z ≤ m := by rw [← hz]; exact World.ownsMap.size_le hown
      clear hb5 hown hS hnm hsz hcw hz
      by_cases hz24 : z ≤ 24
      · have v1 : (z : Int) ≤ 24 := by omega
        go_wp2_with fail
        clear hlen5
        by_cases hV : Fil.Void (f ++ g) S
        · refine (anyEmpty_at b (f ++ g) S w5 HSP.out true (decide_eq_true hV)).mono ?_
          rintro e w6 ⟨rfl, hb6⟩
          have HV := Lib.hid hV
          have HB6 := Lib.hid (below_next HB5.out (by have := HB5.out.size; omega) hb6)
          clear hV hb6
          go_wp2_with fail
          go_ret
          exact ⟨tells_no (fun h => (HCW.out.1 h).2.2.2 HV.out) HB6.out, fun _ _ => HEX.out⟩
        · refine (anyEmpty_at b (f ++ g) S w5 HSP.out false (decide_eq_false hV)).mono ?_
          rintro e w6 ⟨rfl, hb6⟩
          have HV := Lib.hid hV
          have HB6 := Lib.hid (below_next HB5.out (by have := HB5.out.size; omega) hb6)
          clear hV hb6
          go_wp2_with fail
          go_ret
          exact ⟨tells_yes (HCW.out.2 ⟨HF.out, HG.out, hz24, HV.out⟩) HB6.out, fun _ _ => HEX.out⟩
      · have v1 : ¬ (z : Int) ≤ 24 := by omega
        go_wp2_with fail
        go_ret
        exact ⟨tells_no (fun h => hz24 (HCW.out.1 h).2.2.1) HB5.out, fun _ _ => HEX.out⟩
    · refine (sound_at A' g n' c' HN'.out (by omega) HLL'.out w1 (RdK.below HR'.out HB1.out) false (decide_eq_false hG)).mono ?_
      rintro e w2 ⟨rfl, hb2⟩
      have HG := Lib.hid hG
      have HB2 := Lib.hid (below_next HB1.out (Nat.le_refl _) hb2)
      clear hG hb2 HB1
      go_wp2_with fail
      go_ret
      exact ⟨tells_no (fun h => HG.out h.2.1) HB2.out, fun _ h => absurd h HG.out⟩
  · refine (sound_at A f n c HN.out (by omega) HLL.out w HR.out false (decide_eq_false hF)).mono ?_
    rintro e w1 ⟨rfl, hb1⟩
    have HF := Lib.hid hF
    have HB1 := Lib.hid hb1
    clear hF hb1
    go_wp2_with fail
    go_ret
    exact ⟨tells_no (fun h => HF.out h.1) HB1.out, fun h => absurd h HF.out⟩
theorem crosses_at (A : Option Addr) (f : List Pr) (n c : Nat) (hn : f.length = n) (hm : n ≤ 50) (hl : PBd f) (A' : Option Addr) (g : List Pr) (n' c' : Nat) (hn' : g.length = n') (hm' : n' ≤ 50) (hl' : PBd g) (w : World) (hr : RdQ w A f) (hr' : RdQ w A' g) :
    Calls Tryz.prog 21 #[.slice A n c, .slice A' n' c'] w (Tells w (Fil.Cross f g)) := (crosses_w A f n c hn hm hl A' g n' c' hn' hm' hl' w hr hr').mono fun _ _ h => h.1
end Go.Proofs.YtlbendiggdmljaaGreat
namespace Go.Proofs.YtlbendiggdmljaaGreat
open Go.RowKit Go.Maps Spans Op
def layOf (p : Pr) : List UInt8 := Preds.lay p.n p.o p.k p.i p.t
/-- A right filter's bytes. -/
def fbytes (f : List Pr) : List UInt8 := Wire.put f.length ++ f.flatMap layOf
/-- What is laid of a filter. -/
def FLaid (f : List Pr) (bs : List UInt8) : Prop := (Fil.NormIs f f 0 ∧ bs = fbytes f) ∨ (¬ Fil.NormIs f f 0 ∧ bs = [])
theorem FLaid.one {f : List Pr} {bs bs' : List UInt8} (h : FLaid f bs) (k : FLaid f bs') : bs = bs' := by
  rcases h with ⟨h1, rfl⟩ | ⟨h1, rfl⟩ <;> rcases k with ⟨k1, rfl⟩ | ⟨k1, rfl⟩
  · rfl
  · exact absurd h1 k1
  · exact absurd k1 h1
  · rfl
theorem lays_len {f : List Pr} (h : PBd f) : ∀ k, ((f.take k).flatMap layOf).length ≤ 300 * k := by
  intro k
  have : ∀ l : List Pr, (∀ p ∈ l, p ∈ f) → (l.flatMap layOf).length ≤ 300 * l.length := by
    intro l
    induction l with
    | nil => intro _; simp
    | cons p l ih =>
      intro hp
      have h1 := ih fun q hq => hp q (List.mem_cons_of_mem _ hq)
      have h2 := Preds.lay_len p.n p.o p.k p.i p.t (h p (hp p (by simp))).2.2.1 (h p (hp p (by simp))).2.2.2
      rw [List.flatMap_cons, List.length_append, List.length_cons]
      unfold layOf at *
      omega
  have h1 := this (f.take k) fun p hp => List.mem_of_mem_take hp
  have h2 : (f.take k).length ≤ k := by rw [List.length_take]; omega
  have h3 : 300 * (f.take k).length ≤ 300 * k := Nat.mul_le_mul_left _ h2
  omega
theorem fbytes_len {f : List Pr} (h : PBd f) (hn : f.length ≤ 24) : (fbytes f).length ≤ 8000 := by
  have h1 := lays_len h f.length
  rw [List.take_length] at h1
  have h2 := Wire.put_len_le f.length (by omega)
  unfold fbytes
  rw [List.length_append]
  omega
set_option maxRecDepth 100000 in
set_option maxHeartbeats 2000000 in
theorem bytesOf_at (A : Option Addr) (f : List Pr) (n c : Nat) (hn : f.length = n) (hm : n ≤ 100) (hl : PBd f) (w : World) (hr : RdQ w A f) :
    Calls Tryz.prog 52 #[.slice A n c] w fun e w' => ∃ bs, FLaid f bs ∧ bs.length ≤ 8000 ∧ Lays w bs bs.length e w' := by
  have HN := Lib.hid hn
  have HLL := Lib.hid hl
  have HR := Lib.hid hr
  clear hn hl hr
  go_enter Tryz.func52, Tryz.ntmps52
  go_wp2_with fail
  refine (fright_at A f n c HN.out hm HLL.out w HR.out).mono ?_
  rintro e w1 ⟨q, rfl, hq, hb1⟩
  have HB1 := Lib.hid hb1
  clear hb1
  cases q with
  | false =>
    have HQ : Hid (¬ Fil.NormIs f f 0) := fun h => by have := hq.2 h; cases this
    clear hq
    go_wp2_with fail
    go_ret
    exact ⟨[], .inr ⟨HQ.out, rfl⟩, by simp, none, 0, rfl, Nat.le_refl _, HB1.out, .inl rfl⟩
  | true =>
    have HQ : Hid (Fil.NormIs f f 0) := hq.1 rfl
    have h24 : n ≤ 24 := by
      obtain ⟨S, L, hg⟩ := HQ.out.good
      have := hg.sound.1
      rw [HN.out] at this
      exact this
    clear hq
    have hu : (n : Int) ≤ 18446744073709551615 := by omega
    have hpl := Wire.put_len_le n (by omega)
    obtain ⟨L0, hL0⟩ : ∃ z, (Wire.put n).length = z := ⟨_, rfl⟩
    rw [hL0] at hpl
    have HL0 := Lib.hid hL0
    clear hL0
    go_wp2_with fail
    refine (put_at none [] 0 0 n L0 rfl (by rw [HL0.out]; omega) (by omega) (by omega) w1 (.inl rfl)).mono ?_
    rintro e w2 ⟨g2, rfl, hg2, hb2, hB2⟩
    rw [List.nil_append] at hB2
    have HB2 := Lib.hid (below_next HB1.out (Nat.le_refl _) hb2)
    have HR2 := Lib.hid hB2.rd
    clear hb2 hB2 hg2 hu
    go_wp2_with fail
    go_loopg [3, 15] n (fun gg s3 s15 wr => ∃ (k : Nat) (D : Option Addr) (L cc : Nat), k ≤ n ∧ n - k ≤ gg ∧ s15 = .int .i64 (k : Int) ∧ s3 = .slice D L cc ∧ L ≤ cc ∧ L ≤ 10 + 300 * k ∧ Hid ((Wire.put n ++ (f.take k).flatMap layOf).length = L) ∧ Hid (Rd wr D (Wire.put n ++ (f.take k).flatMap layOf)) ∧ Hid (Below w.heap.size w wr))
    case atStart => exact ⟨0, _, L0, L0, Nat.zero_le _, by omega, rfl, rfl, Nat.le_refl _, by omega, by show _ = _; simp [HL0.out], by show Rd _ _ _; simpa using HR2.out, HB2⟩
    case round =>
      obtain ⟨k, D, L, cc, hk, hgg, rfl, rfl, hLc, hLk, HL, HRD, HB⟩ := hrel
      clear HR2 HB2 HB1
      by_cases hlt : k < n
      · have hk' : k < f.length := by rw [HN.out]; exact hlt
        have hpl := HLL.out _ (List.getElem_mem hk')
        obtain ⟨g, off, rfl, hg, c0, c1, c2, c3, c4⟩ := RdQ.at5 (RdK.below HR.out HB.out) hk'
        obtain ⟨x, hx⟩ : ∃ x, f[k] = x := ⟨_, rfl⟩
        have HX := Lib.hid hx
        rw [hx] at c0 c1 c2 c3 c4 hpl
        clear hx
        obtain ⟨xn, xo, xk, xi, xt⟩ := x
        obtain ⟨hp1, hp2, hp3, hp4⟩ := hpl
        dsimp only at hp1 hp2 hp3 hp4 c0 c1 c2 c3 c4
        have w5 : (k : Int) < (n : Int) := by omega
        have hb1 := HB.out.alloc (by have := HB.out.size; omega) (.cells #[.string ⟨xn.toArray⟩, .int .i64 xo, .int .i64 xk, .int .i64 xi, .string ⟨xt.toArray⟩] 35)
        have HB1 := Lib.hid hb1
        have HRE := Lib.hid (HRD.out.below ((Below.refl _ _).alloc (Nat.le_refl _) (.cells #[.string ⟨xn.toArray⟩, .int .i64 xo, .int .i64 xk, .int .i64 xi, .string ⟨xt.toArray⟩] 35)))
        have hll := Preds.lay_len xn xo xk xi xt hp3 hp4
        obtain ⟨L2, hL2⟩ : ∃ z, L + (Preds.lay xn xo xk xi xt).length = z := ⟨_, rfl⟩
        have HL2 := Lib.hid hL2
        have hL2b : L2 ≤ 10 + 300 * (k + 1) := by omega
        clear hb1 hL2 hll
        go_wp2_with fail
        refine (pput_at D _ L cc L2 xn xo xk xi xt HL.out HL2.out (by omega) hp3 hp4 (by omega) (by omega) _ HRE.out).mono ?_
        rintro e w2 ⟨D2, cc2, rfl, hLc2, hb2, hrd2⟩
        have HB2 := Lib.hid (below_next HB1.out (by have := HB1.out.size; omega) hb2)
        have hE : Wire.put n ++ (f.take (k + 1)).flatMap layOf = (Wire.put n ++ (f.take k).flatMap layOf) ++ Preds.lay xn xo xk xi xt := by
          rw [List.take_succ_eq_append_getElem hk', HX.out, List.flatMap_append, List.append_assoc]
          simp [layOf]
        have HRD2 : Hid (Rd w2 D2 (Wire.put n ++ (f.take (k + 1)).flatMap layOf)) := by
          show Rd _ _ _
          rw [hE]
          exact hrd2
        have HL3 : Hid ((Wire.put n ++ (f.take (k + 1)).flatMap layOf).length = L2) := by
          show _ = _
          rw [hE, List.length_append, HL.out]
          exact HL2.out
        clear hb2 hrd2 hE c0 c1 c2 c3 c4 HRE HB1 HL2 HRD HL
        go_wp2_with fail
        go_roundg (n - (k + 1))
        case measure => omega
        case rel => exact ⟨k + 1, D2, L2, cc2, by omega, Nat.le_refl _, by go_num, rfl, hLc2, hL2b, HL3, HRD2, HB2⟩
      · have hkn : Hid (k = n) := by show k = n; omega
        go_wp2_with fail
        go_ret
        have h1 := HRD.out
        have h2 := HL.out
        rw [hkn.out, List.take_of_length_le (by rw [HN.out]; exact Nat.le_refl _)] at h1 h2
        have hE : fbytes f = Wire.put n ++ f.flatMap layOf := by unfold fbytes; rw [HN.out]
        rw [← hE] at h1 h2
        exact ⟨fbytes f, .inl ⟨HQ.out, rfl⟩, fbytes_len HLL.out (by rw [HN.out]; exact h24), D, cc, by rw [h2]; rfl, by rw [h2]; exact hLc, HB.out, h1⟩
set_option maxRecDepth 100000 in
set_option maxHeartbeats 2000000 in
theorem fput_at (B : Option Addr) (bs : List UInt8) (m d : Nat) (hbs : bs.length = m) (hmb : m ≤ 1000) (A : Option Addr) (f : List Pr) (n c : Nat) (hn : f.length = n) (hm : n ≤ 100) (hl : PBd f) (w : World) (hrb : Rd w B bs) (hr : RdQ w A f) :
    Calls Tryz.prog 23 #[.slice B m d, .slice A n c] w fun e w' => ∃ fs, FLaid f fs ∧ fs.length ≤ 8000 ∧ Lays w (bs ++ fs) (m + fs.length) e w' := by
  have HN := Lib.hid hn
  have HLL := Lib.hid hl
  have HR := Lib.hid hr
  have HM := Lib.hid hbs
  have HRB := Lib.hid hrb
  clear hn hl hr hbs hrb
  go_enter Tryz.func23, Tryz.ntmps23
  go_wp2_with fail
  refine (bytesOf_at A f n c HN.out hm HLL.out w HR.out).mono ?_
  rintro e w1 ⟨fs, hfl, hfl8, D, cc, rfl, hcc, hb1, hrd⟩
  have HFL := Lib.hid hfl
  have HB1 := Lib.hid hb1
  have HRD := Lib.hid hrd
  obtain ⟨k, hk⟩ : ∃ z, fs.length = z := ⟨_, rfl⟩
  have HK := Lib.hid hk
  rw [hk] at hfl8 hcc
  simp only [hk]
  have hBK := Blk.new w1 24 #[.slice B m d, .slice D k cc]
  have HBK := Lib.hid hBK
  have hbb : Below w1.heap.size w1 (w1.alloc (.cells #[.slice B m d, .slice D k cc] 24)) := (Below.refl _ _).alloc (Nat.le_refl _) _
  have HB2 := Lib.hid (below_next HB1.out (Nat.le_refl _) hbb)
  have HRD2 := Lib.hid (HRD.out.below hbb)
  clear hfl hb1 hrd hk hBK hbb
  go_wp2_with fail
  refine (concatB_at w1.heap.size B m d D k cc _ bs fs HM.out (by omega) HK.out (by omega) (HRB.out.below HB2.out) HRD2.out HBK.out.lt (HBK.out.cell 0) (HBK.out.cell 1)).mono ?_
  generalize w1.alloc (.cells #[.slice B m d, .slice D k cc] 24) = w3 at *
  rintro e w4 ⟨v, rfl, ho4, hb4⟩
  obtain ⟨D4, c4, rfl, hc4, hr4⟩ := Own.rd ho4
  have HB4 := Lib.hid (below_next HB2.out (Nat.le_refl _) hb4)
  have HR4 := Lib.hid hr4
  have HC4 := Lib.hid hc4
  have hlen : (bs ++ fs).length = m + k := by rw [List.length_append, HM.out, HK.out]
  have HLN := Lib.hid hlen
  rw [hlen] at hc4
  simp only [hlen]
  clear ho4 hb4 hr4 hlen
  go_wp2_with fail
  go_ret
  exact ⟨fs, HFL.out, by rw [HK.out]; exact hfl8, D4, c4, by rw [HK.out]; rfl, by rw [HK.out]; exact hc4, HB4.out, HR4.out⟩
end Go.Proofs.YtlbendiggdmljaaGreat
namespace Go.Proofs.YtlbendiggdmljaaGreat
open Go.RowKit Go.Maps Spans Op
/-- The predicate that comes next; several, one behind the other; the scan behind them. -/
def rdP (s : Wire.St) : Pr := ⟨Preds.getN s, Preds.getO s, Preds.getK s, Preds.getI s, Preds.getT s⟩
def rdsS : Nat → Wire.St → Wire.St
  | 0, s => s
  | k + 1, s => Preds.getS (rdsS k s)
def rdsP : Nat → Wire.St → List Pr
  | 0, _ => []
  | k + 1, s => rdsP k s ++ [rdP (rdsS k s)]
theorem rdsP_len (s : Wire.St) : ∀ k, (rdsP k s).length = k
  | 0 => rfl
  | k + 1 => by rw [rdsP, List.length_append, rdsP_len s k]; rfl
theorem rd_err (s : Wire.St) (h : (Preds.getS s).err = 0) : s.err = 0 := by
  have h1 := Preds.behind_name s (Preds.getS_behind s h)
  unfold Preds.nameS at h1
  split at h1
  · exact absurd h1 (Preds.fail_err _ 3 (by decide))
  · cases Classical.em (s.err = 0) with
    | inl h => exact h
    | inr h => rw [Preds.textS_err h] at h1; exact absurd h1 h
theorem rd_bd (s : Wire.St) : (rdP s).n.length ≤ 100 ∧ (rdP s).t.length ≤ 100 ∧ -9223372036854775808 ≤ (rdP s).i ∧ (rdP s).i ≤ 9223372036854775807 := by
  unfold rdP
  dsimp only
  by_cases h : (Preds.getS s).err = 0
  · have h0 := rd_err s h
    obtain ⟨b, e⟩ := s
    dsimp only at h0
    subst h0
    obtain ⟨j, _, _, hr, _⟩ := Preds.get_ok b h
    obtain ⟨h1, h2⟩ := Preds.right_bd hr
    obtain ⟨h3, h4⟩ := Preds.getI_bd b
    exact ⟨by omega, by omega, h3, h4⟩
  · obtain ⟨h1, _, _, h4, h5⟩ := Preds.get_bad s h
    rw [h1, h4, h5]
    exact ⟨by simp, by simp, by decide, by decide⟩
theorem rdsP_bd (s : Wire.St) : ∀ k, PBd (rdsP k s)
  | 0 => fun p hp => by cases hp
  | k + 1 => fun p hp => by
    rw [rdsP] at hp
    rcases List.mem_append.1 hp with hp | hp
    · exact rdsP_bd s k p hp
    · simp at hp
      subst hp
      exact rd_bd _
/-- What Get tells of a scan: the filter, and the scan behind it. -/
def GetF (s : Wire.St) : List Pr := rdsP (s.uptoV 24) (s.uptoS 24)
def GetR (s : Wire.St) : Wire.St := rdsS (s.uptoV 24) (s.uptoS 24)
def GetIs (s : Wire.St) (f : List Pr) (s' : Wire.St) : Prop :=
  ((Fil.NormIs (GetF s) (GetF s) 0 ∧ s' = GetR s) ∨ (¬ Fil.NormIs (GetF s) (GetF s) 0 ∧ s' = (GetR s).fail 3)) ∧ f = if s'.err = 0 then GetF s else []
theorem GetIs.one {s s' t' : Wire.St} {f g : List Pr} (h : GetIs s f s') (k : GetIs s g t') : f = g ∧ s' = t' := by
  obtain ⟨h1, rfl⟩ := h
  obtain ⟨k1, rfl⟩ := k
  rcases h1 with ⟨a, rfl⟩ | ⟨a, rfl⟩ <;> rcases k1 with ⟨b, rfl⟩ | ⟨b, rfl⟩
  · exact ⟨rfl, rfl⟩
  · exact absurd a b
  · exact absurd b a
  · exact ⟨rfl, rfl⟩
theorem OwnK.touch {α : Type} {L : Lay α} {w w' : World} {base g : Nat} {v : Value} {es : List α} (h : OwnK L w base v es) (hg : w.grownBy w' (some g)) (hb : g < base) : OwnK L w' base v es := by
  refine ⟨h.1, ?_⟩
  rcases h.2 with h2 | ⟨j, cap, cur, hv, hbj, hj, r⟩
  · exact .inl h2
  · exact .inr ⟨j, cap, cur, hv, hbj, (hg.block j (Array.getElem?_eq_some_iff.1 hj).1 (fun e => by have := Option.some.inj e; omega)).trans hj, r⟩
set_option maxRecDepth 100000 in
set_option maxHeartbeats 4000000 in
theorem fget_at (w : World) (g : Nat) (s : Wire.St) (h : Sc w g 77 s) :
    Calls Tryz.prog 26 #[.pointer (some ⟨g, 0, none⟩)] w fun e w' => ∃ f s' A n c, GetIs s f s' ∧ e = .returned (.slice A n c) ∧ f.length = n ∧ n ≤ 24 ∧ n ≤ c ∧ OwnQ w' w.heap.size (.slice A n c) f ∧ Sc w' g 77 s' ∧ Touch g w w' := by
  have hgl := h.lt
  have hb0 : Below w.heap.size w (w.alloc (.cells #[] 35)) := (Below.refl _ _).alloc (Nat.le_refl _) _
  have HS0 := Lib.hid (h.below hb0)
  have HT0 : Hid (Touch g w (w.alloc (.cells #[] 35))) := Touch.of_below hb0
  have HW0 : Hid (OwnQ (w.alloc (.cells #[] 35)) w.heap.size (.slice (some ⟨w.heap.size, 0, none⟩) 0 0) []) := OwnK.empty (L := layP) w w.heap.size (Nat.le_refl _)
  obtain ⟨n, hn⟩ : ∃ n, s.uptoV 24 = n := ⟨_, rfl⟩
  obtain ⟨t, ht⟩ : ∃ t, s.uptoS 24 = t := ⟨_, rfl⟩
  have HN := Lib.hid hn
  have HT := Lib.hid ht
  have hn24 : n ≤ 24 := by rw [← hn]; exact Preds.upto_le s 24
  clear h hb0 hn ht
  go_enter Tryz.func26, Tryz.ntmps26
  go_wp2_with fail
  generalize w.alloc (.cells #[] 35) = w0 at *
  refine (upto_is w0 g s t n HS0.out 24 (by decide) (by decide) HN.out HT.out).mono ?_
  rintro e w1 ⟨rfl, hs1, ht1⟩
  have HS1 := Lib.hid hs1
  have HT1 := Lib.hid (HT0.out.trans ht1)
  have HW1 := Lib.hid (OwnK.touch HW0.out ht1 hgl)
  clear hs1 ht1 HS0 HT0 HW0
  go_wp2_with fail
  go_loopg [3, 7] n (fun gg s3 s7 wr => ∃ (k : Nat), k ≤ n ∧ n - k ≤ gg ∧ s7 = .int .i64 (k : Int) ∧ Hid (OwnQ wr w.heap.size s3 (rdsP k t)) ∧ Hid (Sc wr g 77 (rdsS k t)) ∧ Hid (Touch g w wr))
  case atStart => exact ⟨0, Nat.zero_le _, by omega, rfl, HW1, HS1, HT1⟩
  case round =>
    obtain ⟨k, hk, hgg, rfl, HW, HS, HTr⟩ := hrel
    clear HW1 HS1 HT1
    by_cases hlt : k < n
    · have w5 : (k : Int) < (n : Int) := by omega
      obtain ⟨x, hx⟩ : ∃ x, rdP (rdsS k t) = x := ⟨_, rfl⟩
      have HX := Lib.hid hx
      obtain ⟨xn, xo, xk, xi, xt⟩ := x
      have h1 : Preds.getN (rdsS k t) = xn := congrArg Pr.n hx
      have h2 : Preds.getO (rdsS k t) = xo := congrArg Pr.o hx
      have h3 : Preds.getK (rdsS k t) = xk := congrArg Pr.k hx
      have h4 : Preds.getI (rdsS k t) = xi := congrArg Pr.i hx
      have h5 : Preds.getT (rdsS k t) = xt := congrArg Pr.t hx
      have HC := Lib.hid (fun W hW => pget_at W g (rdsS k t) hW xn xo xk xi xt (rdsS (k + 1) t) h1 h2 h3 h4 h5 rfl)
      clear h1 h2 h3 h4 h5 hx
      go_wp2_with fail
      refine (HC.out wr HS.out).mono ?_
      rintro e w2 ⟨rfl, hs2, ht2⟩
      have hW2 := OwnK.touch HW.out ht2 hgl
      have hT2 := HTr.out.trans ht2
      have hsz : w.heap.size ≤ w2.heap.size := hT2.size
      have hrx := rdk_one layP w2 ⟨xn, xo, xk, xi, xt⟩ 35 #[.string ⟨xn.toArray⟩, .int .i64 xo, .int .i64 xk, .int .i64 xi, .string ⟨xt.toArray⟩] rfl
      have hbb : Below w2.heap.size w2 (w2.alloc (.cells #[.string ⟨xn.toArray⟩, .int .i64 xo, .int .i64 xk, .int .i64 xi, .string ⟨xt.toArray⟩] 35)) := (Below.refl _ _).alloc (Nat.le_refl _) _
      have hW3 := OwnK.below hW2 hbb
      have hS3 := hs2.below hbb
      have hT3 : Touch g w (w2.alloc (.cells #[.string ⟨xn.toArray⟩, .int .i64 xo, .int .i64 xk, .int .i64 xi, .string ⟨xt.toArray⟩] 35)) := hT2.trans (Touch.of_below hbb)
      have hle := OwnK.base_le hW3
      have hlen := rdsP_len t k
      have HS3 := Lib.hid hS3
      have HT3 := Lib.hid hT3
      have HLE := Lib.hid hle
      clear hs2 ht2 hW2 hT2 hbb hS3 hT3 hle HW HS HTr HC
      obtain ⟨lk, hlk⟩ : ∃ l, rdsP k t = l := ⟨_, rfl⟩
      have HLK := Lib.hid hlk
      rw [hlk] at hW3 hlen
      clear hlk
      go_wp2_with (at_builtin; refine wpList_append_k layP (by rfl) (.tmp 9) (.tmp 12) 22 underQ rfl w.heap.size _ lk (by rfl) hW3 _ [⟨xn, xo, xk, xi, xt⟩] 1 1 (by rfl) hrx rfl (by rw [maxLen_num]; omega) (by show (lk.length + 1) * 56 ≤ _; omega) (by simp; omega) ?_; intro v6 w6 ho6 hB6 hg6 hl6)
      have HS6 : Hid (Sc w6 g 77 (rdsS (k + 1) t)) := HS3.out.behind (b := w.heap.size) hg6 HLE.out hgl
      have HT6 : Hid (Touch g w w6) := ⟨hg6.os.trans HT3.out.os, hg6.tape.trans HT3.out.tape, hg6.output.trans HT3.out.output, Nat.le_trans HT3.out.size hg6.size, fun i hi hne => (hg6.block i (Nat.lt_of_lt_of_le hi HT3.out.size) (fun e => by have := HLE.out i e.symm; omega)).trans (HT3.out.block i hi hne)⟩
      have HW6 : Hid (OwnQ w6 w.heap.size v6 (rdsP (k + 1) t)) := by
        show OwnK _ _ _ _ _
        rw [rdsP, HLK.out, HX.out]
        exact ho6
      clear hB6 hg6 hl6 ho6 hrx hW3 HS3 HT3 HLE
      go_wp2_with fail
      go_roundg (n - (k + 1))
      case measure => omega
      case rel => exact ⟨k + 1, by omega, Nat.le_refl _, by go_num, HW6, HS6, HT6⟩
    · have hkn : k = n := by omega
      subst hkn
      have HF : Hid (GetF s = rdsP k t) := by show _ = _; unfold GetF; rw [HN.out, HT.out]
      have HR : Hid (GetR s = rdsS k t) := by show _ = _; unfold GetR; rw [HN.out, HT.out]
      have hlen := rdsP_len t k
      obtain ⟨A3, c3, hv3, hc3, hr3⟩ := OwnK.form HW.out hlen
      subst hv3
      have HLN := Lib.hid hlen
      have hr3' := hr3
      clear hlen
      go_wp2_with fail
      refine (fright_at A3 (rdsP k t) k c3 HLN.out (by omega) (rdsP_bd t k) wr hr3').mono ?_
      rintro e w2 ⟨q, rfl, hq, hb2⟩
      have HW2 := Lib.hid (OwnK.below HW.out hb2)
      have HS2 := Lib.hid (HS.out.below hb2)
      have HT2 := Lib.hid (HTr.out.trans (Touch.of_below hb2))
      clear hb2 hr3 hr3' HW HS HTr
      cases q with
      | true =>
        have HG : Hid (GetIs s (if (GetR s).err = 0 then GetF s else []) (GetR s)) := ⟨.inl ⟨by rw [HF.out]; exact hq.1 rfl, rfl⟩, rfl⟩
        clear hq
        go_wp2_with fail
        obtain ⟨z, hz⟩ : ∃ z, (rdsS k t).err = z := ⟨_, rfl⟩
        refine (err_at w2 g _ HS2.out z hz).mono ?_
        rintro e w3 ⟨rfl, rfl⟩
        by_cases hz0 : z = 0
        · subst hz0
          have HZ := Lib.hid hz
          clear hz
          go_wp2_with fail
          go_ret
          have hG := HG.out
          rw [HR.out, if_pos HZ.out, HF.out] at hG
          exact ⟨_, _, A3, k, c3, hG, rfl, HLN.out, hn24, hc3, HW2.out, HS2.out, HT2.out⟩
        · have v1 : (z != 0) = true := by simpa using hz0
          have HZ : Hid (¬ (rdsS k t).err = 0) := by rw [hz]; exact hz0
          clear hz hz0
          go_wp2_with fail
          go_ret
          have hG := HG.out
          rw [HR.out, if_neg HZ.out] at hG
          exact ⟨_, _, none, 0, 0, hG, rfl, rfl, by omega, Nat.le_refl _, OwnK.none_ _ _, HS2.out, HT2.out⟩
      | false =>
        have HG : Hid (GetIs s (if ((GetR s).fail 3).err = 0 then GetF s else []) ((GetR s).fail 3)) := ⟨.inr ⟨by rw [HF.out]; exact fun h => (by have := hq.2 h; cases this), rfl⟩, rfl⟩
        clear hq
        go_wp2_with fail
        refine (fail_at w2 g _ HS2.out 3).mono ?_
        rintro e w3 ⟨rfl, hs3, ht3⟩
        have HS3 := Lib.hid hs3
        have HT3 := Lib.hid (HT2.out.trans ht3)
        clear hs3 ht3
        go_wp2_with fail
        obtain ⟨z, hz⟩ : ∃ z, ((rdsS k t).fail 3).err = z := ⟨_, rfl⟩
        have hzn : z ≠ 0 := by rw [← hz]; exact Preds.fail_err _ 3 (by decide)
        refine (err_at w3 g _ HS3.out z hz).mono ?_
        rintro e w4 ⟨rfl, rfl⟩
        have v1 : (z != 0) = true := by simpa using hzn
        have HZ : Hid (¬ ((rdsS k t).fail 3).err = 0) := by rw [hz]; exact hzn
        clear hz hzn
        go_wp2_with fail
        go_ret
        have hG := HG.out
        rw [HR.out, if_neg HZ.out] at hG
        exact ⟨_, _, none, 0, 0, hG, rfl, rfl, by omega, Nat.le_refl _, OwnK.none_ _ _, HS3.out, HT3.out⟩
end Go.Proofs.YtlbendiggdmljaaGreat
namespace Go.Proofs.YtlbendiggdmljaaGreat
open Go.RowKit Spans Op
theorem upto_put (m : Nat) (hm : m ≤ 24) (r : List UInt8) : (Wire.St.mk (Wire.put m ++ r) 0).uptoV 24 = m ∧ (Wire.St.mk (Wire.put m ++ r) 0).uptoS 24 = ⟨r, 0⟩ := by
  have h := Wire.num_put m (by omega) r
  have h1 : ((Wire.St.mk (Wire.put m ++ r) 0).over 24) = false := by
    unfold Wire.St.over Wire.St.numV
    rw [h]
    simp
    omega
  unfold Wire.St.uptoV Wire.St.uptoS
  rw [h1]
  simp only [Bool.false_eq_true, if_false]
  unfold Wire.St.numV Wire.St.numS
  dsimp only
  rw [h]
  simp
theorem rds_back {f : List Pr} (hr : Fil.AllRight f) (r : List UInt8) : ∀ k, k ≤ f.length → rdsS k ⟨f.flatMap layOf ++ r, 0⟩ = ⟨(f.drop k).flatMap layOf ++ r, 0⟩ ∧ rdsP k ⟨f.flatMap layOf ++ r, 0⟩ = f.take k
  | 0, _ => by simp [rdsS, rdsP]
  | k + 1, hk => by
    obtain ⟨h1, h2⟩ := rds_back hr r k (by omega)
    have hk' : k < f.length := by omega
    have hd : f.drop k = f[k] :: f.drop (k + 1) := List.drop_eq_getElem_cons hk'
    have hp := hr f[k] (List.getElem_mem hk')
    obtain ⟨hp1, hp2, hp3⟩ := (rightP_iff _).1 hp
    obtain ⟨g1, g2, g3, g4, g5, g6⟩ := Preds.get_lay f[k].n f[k].o f[k].k f[k].i f[k].t ((f.drop (k + 1)).flatMap layOf ++ r) hp1 hp2 hp3
    have e : (f.drop k).flatMap layOf ++ r = Preds.lay f[k].n f[k].o f[k].k f[k].i f[k].t ++ ((f.drop (k + 1)).flatMap layOf ++ r) := by
      rw [hd, List.flatMap_cons, List.append_assoc]; rfl
    rw [rdsS, rdsP, h1, h2, e]
    refine ⟨g1, ?_⟩
    rw [List.take_succ_eq_append_getElem hk']
    unfold rdP
    rw [g2, g3, g4, g5, g6]
theorem get_back {f : List Pr} (hr : Fil.AllRight f) (hl : f.length ≤ 24) (r : List UInt8) : GetF ⟨fbytes f ++ r, 0⟩ = f ∧ GetR ⟨fbytes f ++ r, 0⟩ = ⟨r, 0⟩ := by
  unfold GetF GetR fbytes
  rw [List.append_assoc]
  obtain ⟨h1, h2⟩ := upto_put f.length hl (f.flatMap layOf ++ r)
  rw [h1, h2]
  obtain ⟨h3, h4⟩ := rds_back hr r f.length (Nat.le_refl _)
  rw [h3, h4]
  simp
theorem get_right {f : List Pr} (h : Fil.NormIs f f 0) (r : List UInt8) : GetIs ⟨fbytes f ++ r, 0⟩ f ⟨r, 0⟩ := by
  obtain ⟨S, L, hg⟩ := h.good
  obtain ⟨h1, h2⟩ := get_back hg.sound.2 hg.sound.1 r
  refine ⟨.inl ⟨by rw [h1]; exact h, h2.symm⟩, ?_⟩
  rw [if_pos rfl, h1]
theorem get_wrong {f : List Pr} (hr : Fil.AllRight f) (hl : f.length ≤ 24) (h : ¬ Fil.NormIs f f 0) (r : List UInt8) : GetIs ⟨fbytes f ++ r, 0⟩ [] ⟨[], 3⟩ := by
  obtain ⟨h1, h2⟩ := get_back hr hl r
  refine ⟨.inr ⟨by rw [h1]; exact h, ?_⟩, ?_⟩
  · rw [h2]; rfl
  · rw [if_neg (by decide)]
def ip (o k : Int) : Pr := ⟨[97], o, 1, k, []⟩
def spn (lo hi : Int) : Sp := ⟨1, lo, hi, [], [], false, []⟩
theorem can_spn {lo hi : Int} (h1 : -9223372036854775808 ≤ lo) (h2 : lo ≤ hi) (h3 : hi ≤ 9223372036854775807) : CanonN (spn lo hi) :=
  ⟨.inl rfl, rfl, rfl, rfl, h1, h2, h3, fun v hv => by simp [spn] at hv, List.Pairwise.nil⟩
theorem holds_ints {l : List Pr} (hr : ∀ p ∈ l, rightP p = true ∧ p.k = 1 ∧ ofNo p = []) (hne : l ≠ []) {v : Val} (hv : rightV v = true) : (∀ p ∈ l, holdsP p v = true) ↔ v.k = 1 ∧ ∀ p ∈ l, ofLo p ≤ v.i ∧ v.i ≤ ofHi p := by
  constructor
  · intro h
    obtain ⟨p, hp⟩ := List.exists_mem_of_ne_nil _ hne
    refine ⟨?_, fun q hq => ?_⟩
    · obtain ⟨h1, h2, _⟩ := hr p hp
      have := (holds_N h1 (.inl h2) hv).1 (h p hp)
      rw [this.1, h2]
    · obtain ⟨h1, h2, _⟩ := hr q hq
      have := (holds_N h1 (.inl h2) hv).1 (h q hq)
      exact ⟨this.2.1, this.2.2.1⟩
  · rintro ⟨h0, h⟩ q hq
    obtain ⟨h1, h2, h3⟩ := hr q hq
    rw [holds_N h1 (.inl h2) hv, h2, h3]
    exact ⟨h0, (h q hq).1, (h q hq).2, by simp⟩
theorem all_ints {l : List Pr} {lo hi : Int} (hr : ∀ p ∈ l, rightP p = true ∧ p.k = 1 ∧ ofNo p = []) (hne : l ≠ []) (h : ∀ x : Int, -9223372036854775808 ≤ x → x ≤ 9223372036854775807 → ((∀ p ∈ l, ofLo p ≤ x ∧ x ≤ ofHi p) ↔ lo ≤ x ∧ x ≤ hi))
    (h1 : -9223372036854775808 ≤ lo) (h2 : lo ≤ hi) (h3 : hi ≤ 9223372036854775807) : IsAll l (spn lo hi) := by
  refine ⟨.inr (.inr (.inl (can_spn h1 h2 h3))), fun v hv => ?_⟩
  have hb := (rightV_iff v).1 hv
  rw [N_iff (can_spn h1 h2 h3), holds_ints hr hne hv, h v.i hb.2.1 hb.2.2]
  simp [spn, hv]
theorem all_none {l : List Pr} (hr : ∀ p ∈ l, rightP p = true ∧ p.k = 1 ∧ ofNo p = []) (hne : l ≠ []) (h : ∀ x : Int, ¬ ∀ p ∈ l, ofLo p ≤ x ∧ x ≤ ofHi p) : IsAll l none_ := by
  refine ⟨.inl rfl, fun v hv => ?_⟩
  rw [has_none, holds_ints hr hne hv]
  constructor
  · intro h; cases h
  · rintro ⟨_, h1⟩; exact absurd h1 (h _)
def all97 (f : List Pr) : Prop := f ≠ [] ∧ ∀ p ∈ f, p.n = [97]
theorem of97 {f : List Pr} (h : all97 f) : Fil.of f [97] = f := List.filter_eq_self.2 fun p hp => by simp [h.2 p hp]
theorem names97 {f : List Pr} (h : all97 f) : Fil.IsNames f [[97]] := by
  refine ⟨by simp, fun n => ?_⟩
  rw [List.mem_singleton]
  constructor
  · rintro rfl
    obtain ⟨p, hp⟩ := List.exists_mem_of_ne_nil _ h.1
    exact ⟨p, hp, h.2 p hp⟩
  · rintro ⟨p, hp, rfl⟩
    exact h.2 p hp
theorem spans97 {f : List Pr} {a : Sp} (h : all97 f) (ha : IsAll f a) : Fil.IsSpans f (fun _ => a) := fun n hn => by
  have : n = [97] := by obtain ⟨p, hp, rfl⟩ := hn; exact h.2 p hp
  subst this
  rw [of97 h]
  exact ha
theorem good97 {f out : List Pr} {a : Sp} (h : all97 f) (hs : Fil.Sound f) (ha : IsAll f a) (h0 : a.kind ≠ 0) (ho : predsOf [97] a = out) (hl : out.length ≤ 24) : Fil.Good f out (fun _ => a) [[97]] where
  sound := hs
  spans := spans97 h ha
  names := names97 h
  full := fun ⟨_, _, e⟩ => h0 e
  len := hl
  is := by unfold Fil.outOf; simp [ho]
theorem void97 {f : List Pr} (h : all97 f) (hs : Fil.Sound f) (ha : IsAll f none_) : Fil.NormIs f [] 9 := by
  refine .inr (.inr ⟨hs, _, _, spans97 h ha, names97 h, .inl ⟨?_, rfl, rfl⟩⟩)
  obtain ⟨p, hp⟩ := List.exists_mem_of_ne_nil _ h.1
  exact ⟨p, hp, rfl⟩
def f1 : List Pr := [ip 3 6, ip 5 3]
def o1 : List Pr := [ip 6 4, ip 4 5]
def f2 : List Pr := [ip 3 3, ip 5 3]
def f3 : List Pr := [⟨[97], 0, 0, 0, []⟩]
def f4 : List Pr := [ip 3 1]
def f5 : List Pr := [ip 5 0]
theorem g1 : Fil.Good f1 o1 (fun _ => spn 4 5) [[97]] := by
  refine good97 ⟨by decide, by decide⟩ (by decide) (all_ints (by decide) (by decide) (fun x _ _ => ?_) (by decide) (by decide) (by decide)) (by decide) (by decide) (by decide)
  simp only [f1, List.forall_mem_cons, List.not_mem_nil, false_implies, implies_true, and_true]
  simp [ip, ofLo, ofHi, lowest, highest]
  omega
theorem n1 : Fil.NormIs f1 o1 0 := g1.norm
theorem n1' : Fil.NormIs o1 o1 0 := g1.again.norm
theorem n2 : Fil.NormIs f2 [] 9 := by
  refine void97 ⟨by decide, by decide⟩ (by decide) (all_none (by decide) (by decide) fun x => ?_)
  simp only [f2, List.forall_mem_cons, List.not_mem_nil, false_implies, implies_true, and_true]
  simp [ip, ofLo, ofHi, lowest, highest]
  omega
theorem n3 : Fil.NormIs f3 [] 1 := .inr (.inl ⟨by decide, by decide, rfl, rfl⟩)
theorem g4 : Fil.Good f4 [ip 4 0] (fun _ => spn (-9223372036854775808) 0) [[97]] := by
  refine good97 ⟨by decide, by decide⟩ (by decide) (all_ints (by decide) (by decide) (fun x _ _ => ?_) (by decide) (by decide) (by decide)) (by decide) (by decide) (by decide)
  simp only [f4, List.forall_mem_cons, List.not_mem_nil, false_implies, implies_true, and_true]
  simp [ip, ofLo, ofHi, lowest]
theorem n4 : ¬ Fil.NormIs f4 f4 0 := fun h => by
  have := (h.one g4.norm).1
  exact absurd this (by decide)
theorem n0 : Fil.NormIs [] [] 0 := by
  have h0 : ∀ n, ¬ Fil.Asked [] n := fun n ⟨p, hp, _⟩ => by cases hp
  exact .inr (.inr ⟨⟨by simp, fun p hp => (by cases hp)⟩, fun _ => none_, [], fun n hn => absurd hn (h0 n), Fil.IsNames.nil, .inr (.inr ⟨fun ⟨p, hp, _⟩ => (by cases hp), by simp [Fil.outOf], rfl, rfl⟩)⟩)
theorem g5 : Fil.Good f5 [ip 6 1] (fun _ => spn 1 9223372036854775807) [[97]] := by
  refine good97 ⟨by decide, by decide⟩ (by decide) (all_ints (by decide) (by decide) (fun x _ _ => ?_) (by decide) (by decide) (by decide)) (by decide) (by decide) (by decide)
  simp only [f5, List.forall_mem_cons, List.not_mem_nil, false_implies, implies_true, and_true]
  simp [ip, ofLo, ofHi, highest]
theorem cov51 : Fil.Cov f5 o1 := (Fil.cov_with g5.spans g1.again.spans).2 ⟨g5.sound, g1.again.sound, .inr fun n hn => ⟨(g1.again.names.2 n).1 ((g5.names.2 n).2 hn), by decide⟩⟩
theorem ncov15 : ¬ Fil.Cov o1 f5 := fun h => by
  obtain ⟨_, _, h⟩ := (Fil.cov_with g1.again.spans g5.spans).1 h
  have := (h.resolve_left g5.full [97] ((g1.again.names.2 _).1 (by simp))).2
  exact absurd this (by decide)
theorem x14 : Fil.Cross o1 [ip 1 4] := by
  have hg : Fil.Good (o1 ++ [ip 1 4]) [ip 1 4] (fun _ => spn 4 4) [[97]] := by
    refine good97 ⟨by decide, by decide⟩ (by decide) (all_ints (by decide) (by decide) (fun x _ _ => ?_) (by decide) (by decide) (by decide)) (by decide) (by decide) (by decide)
    simp only [o1, List.cons_append, List.nil_append, List.forall_mem_cons, List.not_mem_nil, false_implies, implies_true, and_true]
    simp [ip, ofLo, ofHi, lowest, highest]
    omega
  exact Fil.cross_norm hg.norm
theorem x13 : ¬ Fil.Cross o1 [ip 1 3] := by
  refine Fil.cross_void (out := []) (void97 ⟨by decide, by decide⟩ (by decide) (all_none (by decide) (by decide) fun x => ?_))
  simp only [o1, List.cons_append, List.nil_append, List.forall_mem_cons, List.not_mem_nil, false_implies, implies_true, and_true]
  simp [ip, ofLo, ofHi, lowest, highest]
  omega
theorem cov01 : Fil.Cov [] o1 := g1.again.cov_self.2.2.2
theorem m1 : Fil.meets o1 [⟨[97], 1, 5, []⟩] = true := by decide
theorem m2 : Fil.meets [ip 2 5] [⟨[97], 1, 5, []⟩] = false := by decide
theorem zig1 : Wire.zig 1 = 2 := by decide
theorem b4 : fbytes f4 = [1, 1, 97, 3, 1, 2] := by
  have e1 : Wire.put 1 = [1] := Wire.put_lo 1 (by decide)
  have e2 : Wire.put 2 = [2] := Wire.put_lo 2 (by decide)
  have e3 : Wire.put 3 = [3] := Wire.put_lo 3 (by decide)
  have hr : Preds.right [97] 3 1 1 [] = true := by decide
  simp only [fbytes, f4, layOf, ip, List.flatMap_cons, List.flatMap_nil, List.length_cons, List.length_nil, Nat.zero_add, List.append_nil]
  unfold Preds.lay
  rw [if_pos hr]
  unfold Preds.bytes
  rw [if_neg (show ¬ (3 : Int) = 8 by decide)]
  unfold Vals.lay
  rw [if_pos (show Vals.right 1 1 [] = true by decide)]
  unfold Vals.bytes Wire.text
  simp [e1, e2, e3, zig1]
theorem b0 : fbytes [] = [0] := by
  have e1 : Wire.put 0 = [0] := Wire.put_lo 0 (by decide)
  simp [fbytes, e1]
theorem get1 : GetIs ⟨fbytes o1, 0⟩ o1 ⟨[], 0⟩ := by have := get_right n1' []; rwa [List.append_nil] at this
theorem get4 : GetIs ⟨[1, 1, 97, 3, 1, 2], 0⟩ [] ⟨[], 3⟩ := by
  have := get_wrong (f := f4) g4.sound.2 g4.sound.1 n4 []
  rwa [List.append_nil, b4] at this
theorem get0 : GetIs ⟨[0], 0⟩ [] ⟨[], 0⟩ := by
  have := get_right n0 []
  rwa [List.append_nil, b0] at this
end Go.Proofs.YtlbendiggdmljaaGreat
namespace Go.Proofs.YtlbendiggdmljaaGreat
open Go.RowKit Spans
theorem pbd_right {f : List Pr} (h : Fil.AllRight f) : PBd f := fun p hp => by
  obtain ⟨h1, h2, h3⟩ := (rightP_iff p).1 (h p hp)
  obtain ⟨h4, h5⟩ := Preds.right_bd h1
  exact ⟨by omega, by omega, h2, h3⟩
theorem pbd_few {f : List Pr} (h : fewP f = true) (hb : ∀ p ∈ f, -9223372036854775808 ≤ p.i ∧ p.i ≤ 9223372036854775807) : PBd f ∧ f.length ≤ 24 := by
  unfold fewP at h
  simp only [Bool.and_eq_true, decide_eq_true_eq] at h
  exact ⟨fun p hp => ⟨(h.1 p hp).1, (h.1 p hp).2, (hb p hp).1, (hb p hp).2⟩, h.2⟩
end Go.Proofs.YtlbendiggdmljaaGreat
