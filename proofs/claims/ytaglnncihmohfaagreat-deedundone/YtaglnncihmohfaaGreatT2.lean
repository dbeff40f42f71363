/- Contracts of the program and of the document (TCopy, TSame, TCps), each used further on. -/
import Derived.Test.YtaglnncihmohfaaGreatA4
import Derived.Test.YtaglnncihmohfaaGreatT1
set_option maxRecDepth 100000
set_option maxHeartbeats 4000000
namespace Go.Proofs.YtaglnncihmohfaaGreat
open Go.RowKit Go.Sort Spans Tb
abbrev exV (x : Ex) : Value := .agg #[.int .i64 x.id, .int .i64 x.fr, .slice x.A x.n x.c]
def GivesE (w : World) (e : En) (en : Ending) (w' : World) : Prop := ∃ y : Ex, en = .returned (exV y) /\ y.en = e /\ FltO w' w.heap.size y /\ Below w.heap.size w w'
theorem cells3 {w : World} {g : Nat} {t : TypeId} {a b c : Value} (hB : Blk w g t #[a, b, c]) :
  w.cell? ⟨g, 0, none⟩ = some a /\ w.cell? ⟨g, 1, none⟩ = some b /\ w.cell? ⟨g, 2, none⟩ = some c := ⟨hB.cell 0, hB.cell 1, hB.cell 2⟩
theorem copyEntry_at (id fr : Int) (A : Option Addr) (n c : Nat) (f : List Pr) (hn : f.length = n) (hm : n <= 100000) (w : World) (hr : RdQ w A f) :
  Calls Tryz.prog 123 #[.agg #[.int .i64 id, .int .i64 fr, .slice A n c]] w (GivesE w ⟨id, fr, f⟩) := by
 have HN := Lib.hid hn
 have HR := Lib.hid hr
 have hB0 := (gr2 w (.cells #[.int .i64 id, .int .i64 fr, .slice A n c] 57) (.cells #[.int .i64 0, .int .i64 0, .slice none 0 0] 57)).below
 have hX0 := (Blk.new w 57 #[.int .i64 id, .int .i64 fr, .slice A n c]).alloc (.cells #[.int .i64 0, .int .i64 0, .slice none 0 0] 57)
 have hY0 := Blk.new (w.alloc (.cells #[.int .i64 id, .int .i64 fr, .slice A n c] 57)) 57 #[.int .i64 0, .int .i64 0, .slice none 0 0]
 rw [show (w.alloc (.cells #[.int .i64 id, .int .i64 fr, .slice A n c] 57)).heap.size = w.heap.size + 1 by simp] at hY0
 have hR0 := RdK.below HR.out hB0
 have hs0 : ((w.alloc (.cells #[.int .i64 id, .int .i64 fr, .slice A n c] 57)).alloc (.cells #[.int .i64 0, .int .i64 0, .slice none 0 0] 57)).heap.size = w.heap.size + 2 := by simp
 clear hn hr
 go_enter Tryz.func123, Tryz.ntmps123
 go_wp2_with fail
 generalize (w.alloc (.cells #[.int .i64 id, .int .i64 fr, .slice A n c] 57)).alloc (.cells #[.int .i64 0, .int .i64 0, .slice none 0 0] 57) = w0 at *
 have hS0 : Blk w0.drew w.heap.size 57 #[.int .i64 id, .int .i64 fr, .slice A n c] := hX0
 refine wp_region_held_drew (S := fun w' => Blk w' w.heap.size 57 #[.int .i64 id, .int .i64 fr, .slice A n c]) (by kernel_rfl) hS0 (fun _ => ?_)
 refine wq 0 3 (v := ?_) rfl rfl (by kernel_rfl) (fun _ _ _ h => h) (by rfl) ?_ hS0 ?_
 rotate_left
 ·intro w' hSw; obtain ⟨r0, r1, r2⟩ := cells3 hSw; go_simp <;> with_reducible rfl
 simp only [Act.put, zu0, zu1, zu2]
 refine wq 1 4 (v := ?_) rfl rfl (by kernel_rfl) (fun _ _ _ h => h) (by rfl) ?_ hS0 ?_
 rotate_left
 ·intro w' hSw; obtain ⟨r0, r1, r2⟩ := cells3 hSw; go_simp <;> with_reducible rfl
 simp only [Act.put, zu0, zu1, zu2]
 refine wq 2 5 (v := ?_) rfl rfl (by kernel_rfl) (fun _ _ _ h => h) (by rfl) ?_ hS0 ?_
 rotate_left
 ·intro w' hSw; obtain ⟨r0, r1, r2⟩ := cells3 hSw; go_simp <;> with_reducible rfl
 simp only [Act.put, zu0, zu1, zu2]
 refine wq 3 6 (v := ?_) rfl rfl (by kernel_rfl) (fun _ _ _ h => h) (by rfl) ?_ hS0 ?_
 rotate_left
 ·intro w' hSw; obtain ⟨r0, r1, r2⟩ := cells3 hSw; go_simp <;> with_reducible rfl
 simp only [Act.put, zu0, zu1, zu2]
 refine wq 4 7 (v := ?_) rfl rfl (by kernel_rfl) (fun _ _ _ h => h) (by rfl) ?_ hS0 ?_
 rotate_left
 ·intro w' hSw; obtain ⟨r0, r1, r2⟩ := cells3 hSw; go_simp <;> with_reducible rfl
 simp only [Act.put, zu0, zu1, zu2]
 refine wq 5 8 (v := ?_) rfl rfl (by kernel_rfl) (fun _ _ _ h => h) (by rfl) ?_ hS0 ?_
 rotate_left
 ·intro w' hSw; obtain ⟨r0, r1, r2⟩ := cells3 hSw; go_simp <;> with_reducible rfl
 simp only [Act.put, zu0, zu1, zu2]
 refine wpAnyH_one (i := 6) (by kernel_rfl) rfl (by rfl) (fun K hK => ?_)
 have hR1 : RdQ w0.drew A f := hR0
 have hY1 : Blk w0.drew (w.heap.size + 1) 57 #[.int .i64 0, .int .i64 0, .slice none 0 0] := hY0
 have hB1 : Below w.heap.size w w0.drew := hB0.drew
 have hs1 : w0.drew.heap.size = w.heap.size + 2 := hs0
 clear hR0 hY0 hB0 hX0 hs0
 have hO0 : OwnQ w0.drew (w.heap.size + 2) (.slice none 0 0) [] := OwnK.none_ _ _
 generalize w0.drew = w1 at *
 refine op_append_k layP (.const (.slice none 0 0)) (.tmp 8) 22 underQ (by rfl) (w.heap.size + 2) (.slice none 0 0) [] (by rfl) hO0 A f n c (by rfl) hR1 HN.out (by rw [maxLen_num]; simp; omega) (by show (0 + n) * 56 <= _; omega) (by omega) ?_
 intro v2 w2 ho2 hb2
 rw [List.nil_append] at ho2
 have hBB : Below (w.heap.size + 2) w1 w2 := hb2 w1 (Below.refl _ _)
 have hX2 : Blk w2 w.heap.size 57 #[.int .i64 id, .int .i64 fr, .slice A n c] := Blk.below hS0 (hBB.mono (by omega)) (Nat.lt_succ_self _)
 have hY2 : Blk w2 (w.heap.size + 1) 57 #[.int .i64 0, .int .i64 0, .slice none 0 0] := Blk.below hY1 (hBB.mono (by omega)) (Nat.lt_succ_self _)
 have hB2 : Below w.heap.size w w2 := hB1.trans (hBB.mono (by omega))
 obtain ⟨A2, c2, hv2, hc2, hr2⟩ := OwnK.form ho2 HN.out
 subst hv2
 have HO2 := Lib.hid ho2
 have hs2 := hBB.size
 clear hb2 hR1 hO0 hBB hr2 ho2 hS0 hY1 hB1
 refine hK.out _ _ hX2 ?_
 clear hK K
 simp only [Act.put, zu0, zu1, zu2]
 refine wq 7 10 (v := ?_) rfl rfl (by kernel_rfl) (fun _ _ _ h => h) (by rfl) ?_ hX2 ?_
 rotate_left
 ·intro w' hSw; obtain ⟨r0, r1, r2⟩ := cells3 hSw; go_simp <;> with_reducible rfl
 simp only [Act.put, zu0, zu1, zu2]
 refine wpAnyH_one (i := 8) (by kernel_rfl) rfl (by rfl) (fun K hK => ?_)
 obtain ⟨y0, y1, y2, q0, q1, q2⟩ := blk3 hY2
 have hly := hY2.lt
 go_simp
 have hX3 : Blk (((w2.setCell ⟨w.heap.size + 1, 0, none⟩ (.int .i64 id)).setCell ⟨w.heap.size + 1, 1, none⟩ (.int .i64 fr)).setCell ⟨w.heap.size + 1, 2, none⟩ (.slice A2 n c2)) w.heap.size 57 #[.int .i64 id, .int .i64 fr, .slice A n c] := Blk.far3 hX2 (by omega) _ _ _
 refine hK.out _ _ hX3 ?_
 clear hK K
 refine wpAnyH_done (by kernel_rfl) ?_ _
 go_wp2_with fail
 refine bodyPost_ret (v := exV ⟨id, fr, A2, n, c2, f⟩) (by simp [results, Tryz.results123, go_sem, y0, y1, y2]) rfl ?_
 exact ⟨⟨id, fr, A2, n, c2, f⟩, rfl, rfl, ⟨HN.out, hc2, (OwnK.put3 HO2.out (by omega) _ _ _).less (by omega)⟩, below_put3 hB2 (Nat.le_succ w.heap.size) _ _ _⟩
end Go.Proofs.YtaglnncihmohfaaGreat
namespace Go.Proofs.YtaglnncihmohfaaGreat
open Go.RowKit Go.Sort Spans Tb
theorem map_snoc {α β : Type} (g : α -> β) {l : List α} {k : Nat} (h : k < l.length) : (l.take (k + 1)).map g = (l.take k).map g ++ [g l[k]] := by
 rw [List.take_succ_eq_append_getElem h, List.map_append]; rfl
theorem sameEntry_at (x y : Ex) (hx : x.f.length = x.n) (hmx : x.n <= 100000) (hy : y.f.length = y.n) (hmy : y.n <= 100000) (w : World) (hr : RdQ w x.A x.f) (hr' : RdQ w y.A y.f) (q : Bool) (hq : decide (x.en = y.en) = q) :
  Calls Tryz.prog 134 #[exV x, exV y] w fun e w' => e = .returned (.bool q) /\ Below w.heap.size w w' := by
 obtain ⟨xi, xr, xA, xn, xc, xf⟩ := x
 obtain ⟨yi, yr, yA, yn, yc, yf⟩ := y
 dsimp only at *
 have HX := Lib.hid hx
 have HY := Lib.hid hy
 have HQ := Lib.hid hq
 have hB0 := (gr2 w (.cells #[.int .i64 xi, .int .i64 xr, .slice xA xn xc] 57) (.cells #[.int .i64 yi, .int .i64 yr, .slice yA yn yc] 57)).below
 have hX0 := (Blk.new w 57 #[.int .i64 xi, .int .i64 xr, .slice xA xn xc]).alloc (.cells #[.int .i64 yi, .int .i64 yr, .slice yA yn yc] 57)
 have hY0 := Blk.new (w.alloc (.cells #[.int .i64 xi, .int .i64 xr, .slice xA xn xc] 57)) 57 #[.int .i64 yi, .int .i64 yr, .slice yA yn yc]
 rw [show (w.alloc (.cells #[.int .i64 xi, .int .i64 xr, .slice xA xn xc] 57)).heap.size = w.heap.size + 1 by simp] at hY0
 have HR0 := Lib.hid (RdK.below hr hB0)
 have HR0' := Lib.hid (RdK.below hr' hB0)
 have HB0 := Lib.hid hB0
 obtain ⟨x0, x1, x2⟩ := cells3 hX0
 obtain ⟨y0, y1, y2⟩ := cells3 hY0
 have hl1 := hX0.lt
 have hl2 := hY0.lt
 clear hx hy hq hB0 hX0 hY0 hr hr'
 by_cases h1 : xi = yi
 ·have d1 : (xi == yi) = true := beq_iff_eq.2 h1
  by_cases h2 : xr = yr
  ·have d2 : (xr == yr) = true := beq_iff_eq.2 h2
   have HF : Hid (decide (xf = yf) = q) := by
    show _ = _
    rw [<- HQ.out]
    simp [h1, h2]
   clear h1 h2
   go_enter Tryz.func134, Tryz.ntmps134
   go_wp2_with fail
   refine (equalP_at xA xf xn xc HX.out hmx yA yf yn yc HY.out hmy _ HR0.out HR0'.out q HF.out).mono ?_
   rintro e w2 ⟨rfl, hg2⟩
   have HB2 := Lib.hid (below_next HB0.out (by have := HB0.out.size; omega) hg2.below)
   clear hg2 x0 x1 x2 y0 y1 y2
   go_wp2_with fail
   go_ret
   exact ⟨rfl, HB2.out⟩
  ·have d2 : (xr == yr) = false := beq_eq_false_iff_ne.2 h2
   have HF : Hid (false = q) := by
    show _ = _
    rw [<- HQ.out]
    simp [h2]
   clear h1 h2
   go_enter Tryz.func134, Tryz.ntmps134
   go_wp2_with fail
   go_ret
   exact ⟨ret_b HF.out, HB0.out⟩
 ·have d1 : (xi == yi) = false := beq_eq_false_iff_ne.2 h1
  have HF : Hid (false = q) := by
   show _ = _
   rw [<- HQ.out]
   simp [h1]
  clear h1
  go_enter Tryz.func134, Tryz.ntmps134
  go_wp2_with fail
  go_ret
  exact ⟨ret_b HF.out, HB0.out⟩
def Short (xs : List Ex) : Prop := ∀ x ∈ xs, x.n <= 100000
theorem equalF_at (A : Option Addr) (es : List Ex) (n c : Nat) (hn : es.length = n) (hm : n <= 100000) (hs : Short es) (A' : Option Addr) (fs : List Ex) (n' c' : Nat) (hn' : fs.length = n') (hm' : n' <= 100000) (hs' : Short fs) (w : World) (hr : RdEn w A es) (hr' : RdEn w A' fs) (q : Bool) (hq : decide (es.map Ex.en = fs.map Ex.en) = q) :
  Calls Tryz.prog 133 #[.slice A n c, .slice A' n' c', .func (.func 134) #[] #[]] w fun e w' => e = .returned (.bool q) /\ Below w.heap.size w w' := by
 subst hq
 have HN := Lib.hid hn
 have HN' := Lib.hid hn'
 have HR := Lib.hid hr
 have HR' := Lib.hid hr'
 have HS := Lib.hid hs
 have HS' := Lib.hid hs'
 clear hn hn' hr hr' hs hs'
 by_cases hne : n = n'
 ·subst hne
  go_enter Tryz.func133, Tryz.ntmps133
  go_wp2_with fail
  go_loopg [17] n (fun gg s8 wr => ∃ k : Nat, k <= n /\ n - k <= gg /\ s8 = .int .i64 (k : Int) /\ Hid (Below w.heap.size w wr) /\ Hid ((es.take k).map Ex.en = (fs.take k).map Ex.en))
  case atStart => exact ⟨0, Nat.zero_le _, by omega, rfl, Below.refl _ _, by show _ = _; simp⟩
  case round =>
   obtain ⟨k, hk, hgg, rfl, HB, HA⟩ := hrel
   by_cases hlt : k < n
   ·have hk' : k < es.length := by rw [HN.out]; exact hlt
    have hk2 : k < fs.length := by rw [HN'.out]; exact hlt
    obtain ⟨g, off, rfl, hg, c0, c1, c2, hf⟩ := RdEn.at3 (HR.out.below HB.out) hk'
    obtain ⟨g', off', rfl, hg', b0, b1, b2, hf'⟩ := RdEn.at3 (HR'.out.below HB.out) hk2
    have hsx := HS.out _ (List.getElem_mem hk')
    have hsy := HS'.out _ (List.getElem_mem hk2)
    obtain ⟨x, hx⟩ : ∃ x, es[k] = x := ⟨_, rfl⟩
    obtain ⟨y, hy⟩ : ∃ y, fs[k] = y := ⟨_, rfl⟩
    have HX := Lib.hid hx
    have HY := Lib.hid hy
    rw [hx] at c0 c1 c2 hf hsx
    rw [hy] at b0 b1 b2 hf' hsy
    clear hx hy
    obtain ⟨xi, xr, xA, xn, xc, xf⟩ := x
    obtain ⟨yi, yr, yA, yn, yc, yf⟩ := y
    dsimp only at c0 c1 c2 b0 b1 b2 hsx hsy
    have w5 : (k : Int) < (n : Int) := by omega
    have hB1 := (gr2 wr (.cells #[.int .i64 xi, .int .i64 xr, .slice xA xn xc] 57) (.cells #[.int .i64 yi, .int .i64 yr, .slice yA yn yc] 57)).below
    have HC := Lib.hid (fun q hq => sameEntry_at ⟨xi, xr, xA, xn, xc, xf⟩ ⟨yi, yr, yA, yn, yc, yf⟩ hf.1 hsx hf'.1 hsy ((wr.alloc (.cells #[.int .i64 xi, .int .i64 xr, .slice xA xn xc] 57)).alloc (.cells #[.int .i64 yi, .int .i64 yr, .slice yA yn yc] 57)) (RdK.below hf.2.2 hB1) (RdK.below hf'.2.2 hB1) q hq)
    have HB1 := Lib.hid (below_next HB.out (Nat.le_refl _) hB1)
    have b0' := (Below.alloc (Below.refl wr.heap.size wr) (Nat.le_refl _) (.cells #[.int .i64 xi, .int .i64 xr, .slice xA xn xc] 57)).cell (p := ⟨g', off' + k * 3, none⟩) hg'
    have b1' := (Below.alloc (Below.refl wr.heap.size wr) (Nat.le_refl _) (.cells #[.int .i64 xi, .int .i64 xr, .slice xA xn xc] 57)).cell (p := ⟨g', off' + k * 3 + 1, none⟩) hg'
    have b2' := (Below.alloc (Below.refl wr.heap.size wr) (Nat.le_refl _) (.cells #[.int .i64 xi, .int .i64 xr, .slice xA xn xc] 57)).cell (p := ⟨g', off' + k * 3 + 2, none⟩) hg'
    rw [b0] at b0'
    rw [b1] at b1'
    rw [b2] at b2'
    clear hf hf' hB1 hsx hsy
    by_cases hxy : (⟨xi, xr, xf⟩ : En) = ⟨yi, yr, yf⟩
    ·have HQ : Hid ((es.take (k + 1)).map Ex.en = (fs.take (k + 1)).map Ex.en) := by
      show _ = _
      rw [map_snoc _ hk', map_snoc _ hk2, HX.out, HY.out, HA.out]
      show _ ++ [(⟨xi, xr, xf⟩ : En)] = _
      rw [hxy]
     have hcall := HC.out true (decide_eq_true hxy)
     clear hxy HX HY HC
     go_wp2_with fail
     refine hcall.mono ?_
     rintro e w2 ⟨rfl, hb2⟩
     go_wp2_with fail
     have HB2 := Lib.hid (below_next HB1.out (by have := HB1.out.size; omega) hb2)
     go_roundg (n - (k + 1))
     case measure => omega
     case rel => exact ⟨k + 1, by omega, Nat.le_refl _, by go_num, HB2, HQ⟩
    ·have HQ : Hid (es.map Ex.en ≠ fs.map Ex.en) := by
      show _ ≠ _
      intro e
      have h1 : (es.map Ex.en)[k]'(by simpa using hk') = (fs.map Ex.en)[k]'(by simpa using hk2) := by simp only [e]
      rw [List.getElem_map, List.getElem_map, HX.out, HY.out] at h1
      exact hxy h1
     have hcall := HC.out false (decide_eq_false hxy)
     clear hxy HX HY HC
     go_wp2_with fail
     refine hcall.mono ?_
     rintro e w2 ⟨rfl, hb2⟩
     go_wp2_with fail
     have HB2 := Lib.hid (below_next HB1.out (by have := HB1.out.size; omega) hb2)
     go_ret
     exact ⟨ret_b (decide_eq_false HQ.out).symm, HB2.out⟩
   ·have hkn : Hid (k = n) := by show k = n; omega
    go_wp2_with fail
    go_ret
    refine ⟨ret_b (decide_eq_true ?_).symm, HB.out⟩
    have := HA.out
    rwa [hkn.out, List.take_of_length_le (by rw [HN.out]; exact Nat.le_refl _), List.take_of_length_le (by rw [HN'.out]; exact Nat.le_refl _)] at this
 ·have v1 : ((n : Int) == (n' : Int)) = false := beq_eq_false_iff_ne.2 (by omega)
  go_enter Tryz.func133, Tryz.ntmps133
  go_wp2_with fail
  go_ret
  refine ⟨ret_b (decide_eq_false fun e => hne ?_).symm, Below.refl _ _⟩
  have := congrArg List.length e
  rw [List.length_map, List.length_map, HN.out, HN'.out] at this
  exact this
theorem sameEnts_at (A : Option Addr) (es : List Ex) (n c : Nat) (hn : es.length = n) (hm : n <= 100000) (hs : Short es) (A' : Option Addr) (fs : List Ex) (n' c' : Nat) (hn' : fs.length = n') (hm' : n' <= 100000) (hs' : Short fs) (w : World) (hr : RdEn w A es) (hr' : RdEn w A' fs) (q : Bool) (hq : decide (es.map Ex.en = fs.map Ex.en) = q) :
  Calls Tryz.prog 92 #[.slice A n c, .slice A' n' c'] w fun e w' => e = .returned (.bool q) /\ Below w.heap.size w w' := by
 have hcall := equalF_at A es n c hn hm hs A' fs n' c' hn' hm' hs' w hr hr' q hq
 clear hn hn' hs hs' hr hr' hq
 go_enter Tryz.func92, Tryz.ntmps92
 go_wp2_with fail
 refine hcall.mono ?_
 rintro e w2 ⟨rfl, hb⟩
 go_wp2_with fail
 go_ret
 exact ⟨rfl, hb⟩
structure Sx.Few (s : Sx) : Prop where
 n : s.n <= 100000
 n1 : s.n1 <= 100000
 n2 : s.n2 <= 100000
 av : Short s.av
 su : Short s.su
theorem same_st (s t : Sx) (ls : s.Len) (lt : t.Len) (fs : s.Few) (ft : t.Few) (w : World) (hr : s.Rd w) (hr' : t.Rd w) (q : Bool) (hq : decide (s.bk = t.bk) = q) :
  Calls Tryz.prog 47 #[s.v, t.v] w fun e w' => e = .returned (.bool q) /\ Below w.heap.size w w' := by
 obtain ⟨se, sA, sn, sc, sl, sA1, sn1, sc1, sv, sA2, sn2, sc2, su⟩ := s
 obtain ⟨te, tA, tn, tc, tl, tA1, tn1, tc1, tv, tA2, tn2, tc2, tu⟩ := t
 have LS := Lib.hid ls
 have LT := Lib.hid lt
 have FS := Lib.hid fs
 have FT := Lib.hid ft
 have HQ := Lib.hid hq
 have hB0 := (gr2 w (.cells #[.int .i64 se, .slice sA sn sc, .slice sA1 sn1 sc1, .slice sA2 sn2 sc2] 42) (.cells #[.int .i64 te, .slice tA tn tc, .slice tA1 tn1 tc1, .slice tA2 tn2 tc2] 42)).below
 have hX0 := (Blk.new w 42 #[.int .i64 se, .slice sA sn sc, .slice sA1 sn1 sc1, .slice sA2 sn2 sc2]).alloc (.cells #[.int .i64 te, .slice tA tn tc, .slice tA1 tn1 tc1, .slice tA2 tn2 tc2] 42)
 have hY0 := Blk.new (w.alloc (.cells #[.int .i64 se, .slice sA sn sc, .slice sA1 sn1 sc1, .slice sA2 sn2 sc2] 42)) 42 #[.int .i64 te, .slice tA tn tc, .slice tA1 tn1 tc1, .slice tA2 tn2 tc2]
 rw [show (w.alloc (.cells #[.int .i64 se, .slice sA sn sc, .slice sA1 sn1 sc1, .slice sA2 sn2 sc2] 42)).heap.size = w.heap.size + 1 by simp] at hY0
 have HS := Lib.hid (hr.below hB0)
 have HT := Lib.hid (hr'.below hB0)
 have HB0 := Lib.hid hB0
 have HX0 := Lib.hid hX0
 have HY0 := Lib.hid hY0
 obtain ⟨x0, x1, x2, x3⟩ := blk4 hX0
 obtain ⟨y0, y1, y2, y3⟩ := blk4 hY0
 have hl1 := hX0.lt
 have hl2 := hY0.lt
 clear ls lt fs ft hr hr' hq hB0 hX0 hY0
 by_cases h0 : se = te
 ·have d0 : (se == te) = true := beq_iff_eq.2 h0
  by_cases h1 : sl = tl
  ·by_cases h2 : sv.map Ex.en = tv.map Ex.en
   ·have HF : Hid (decide (su.map Ex.en = tu.map Ex.en) = q) := by
     show _ = _
     rw [<- HQ.out]
     simp [h0, h1, h2]
    have H1 := Lib.hid h1
    have H2 := Lib.hid h2
    clear h0 h1 h2
    go_enter Tryz.func47, Tryz.ntmps47
    go_wp2_with fail
    refine (equalL_at sA sl sn sc LS.out.n FS.out.n tA tl tn tc LT.out.n FT.out.n _ HS.out.ls HT.out.ls true (decide_eq_true H1.out)).mono ?_
    rintro e w1 ⟨rfl, hgb⟩
    have hb := hgb.below
    clear hgb
    have HB1 := Lib.hid (below_next HB0.out (by have := HB0.out.size; omega) hb)
    have HX1 := Lib.hid (Blk.below HX0.out hb HX0.out.lt)
    have HY1 := Lib.hid (Blk.below HY0.out hb HY0.out.lt)
    have HS1 := Lib.hid (HS.out.below hb)
    have HT1 := Lib.hid (HT.out.below hb)
    clear hb x0 x1 x2 x3 y0 y1 y2 y3 hl1 hl2
    obtain ⟨x0, x1, x2, x3⟩ := blk4 HX1.out
    obtain ⟨y0, y1, y2, y3⟩ := blk4 HY1.out
    have hl1 := HX1.out.lt
    have hl2 := HY1.out.lt
    go_wp2_with fail
    refine (sameEnts_at sA1 sv sn1 sc1 LS.out.n1 FS.out.n1 FS.out.av tA1 tv tn1 tc1 LT.out.n1 FT.out.n1 FT.out.av _ HS1.out.av HT1.out.av true (decide_eq_true H2.out)).mono ?_
    rintro e w2 ⟨rfl, hb⟩
    have HB2 := Lib.hid (below_next HB1.out (by have := HB1.out.size; omega) hb)
    have HX2 := Lib.hid (Blk.below HX1.out hb HX1.out.lt)
    have HY2 := Lib.hid (Blk.below HY1.out hb HY1.out.lt)
    have HS2 := Lib.hid (HS1.out.below hb)
    have HT2 := Lib.hid (HT1.out.below hb)
    clear hb x0 x1 x2 x3 y0 y1 y2 y3 hl1 hl2
    obtain ⟨x0, x1, x2, x3⟩ := blk4 HX2.out
    obtain ⟨y0, y1, y2, y3⟩ := blk4 HY2.out
    have hl1 := HX2.out.lt
    have hl2 := HY2.out.lt
    go_wp2_with fail
    refine (sameEnts_at sA2 su sn2 sc2 LS.out.n2 FS.out.n2 FS.out.su tA2 tu tn2 tc2 LT.out.n2 FT.out.n2 FT.out.su _ HS2.out.su HT2.out.su q HF.out).mono ?_
    rintro e w3 ⟨rfl, hb⟩
    have HB3 := Lib.hid (below_next HB2.out (by have := HB2.out.size; omega) hb)
    have HX3 := Lib.hid (Blk.below HX2.out hb HX2.out.lt)
    have HY3 := Lib.hid (Blk.below HY2.out hb HY2.out.lt)
    have HS3 := Lib.hid (HS2.out.below hb)
    have HT3 := Lib.hid (HT2.out.below hb)
    clear hb x0 x1 x2 x3 y0 y1 y2 y3 hl1 hl2
    obtain ⟨x0, x1, x2, x3⟩ := blk4 HX3.out
    obtain ⟨y0, y1, y2, y3⟩ := blk4 HY3.out
    have hl1 := HX3.out.lt
    have hl2 := HY3.out.lt
    go_wp2_with fail
    go_ret
    exact ⟨rfl, HB3.out⟩
   ·have H1 := Lib.hid h1
    have H2 := Lib.hid h2
    have HF : Hid (false = q) := by
     show _ = _
     rw [<- HQ.out]
     exact (decide_eq_false fun e => h2 (by injection e)).symm
    clear h0 h1 h2
    go_enter Tryz.func47, Tryz.ntmps47
    go_wp2_with fail
    refine (equalL_at sA sl sn sc LS.out.n FS.out.n tA tl tn tc LT.out.n FT.out.n _ HS.out.ls HT.out.ls true (decide_eq_true H1.out)).mono ?_
    rintro e w1 ⟨rfl, hgb⟩
    have hb := hgb.below
    clear hgb
    have HB1 := Lib.hid (below_next HB0.out (by have := HB0.out.size; omega) hb)
    have HX1 := Lib.hid (Blk.below HX0.out hb HX0.out.lt)
    have HY1 := Lib.hid (Blk.below HY0.out hb HY0.out.lt)
    have HS1 := Lib.hid (HS.out.below hb)
    have HT1 := Lib.hid (HT.out.below hb)
    clear hb x0 x1 x2 x3 y0 y1 y2 y3 hl1 hl2
    obtain ⟨x0, x1, x2, x3⟩ := blk4 HX1.out
    obtain ⟨y0, y1, y2, y3⟩ := blk4 HY1.out
    have hl1 := HX1.out.lt
    have hl2 := HY1.out.lt
    go_wp2_with fail
    refine (sameEnts_at sA1 sv sn1 sc1 LS.out.n1 FS.out.n1 FS.out.av tA1 tv tn1 tc1 LT.out.n1 FT.out.n1 FT.out.av _ HS1.out.av HT1.out.av false (decide_eq_false H2.out)).mono ?_
    rintro e w2 ⟨rfl, hb⟩
    have HB2 := Lib.hid (below_next HB1.out (by have := HB1.out.size; omega) hb)
    have HX2 := Lib.hid (Blk.below HX1.out hb HX1.out.lt)
    have HY2 := Lib.hid (Blk.below HY1.out hb HY1.out.lt)
    have HS2 := Lib.hid (HS1.out.below hb)
    have HT2 := Lib.hid (HT1.out.below hb)
    clear hb x0 x1 x2 x3 y0 y1 y2 y3 hl1 hl2
    obtain ⟨x0, x1, x2, x3⟩ := blk4 HX2.out
    obtain ⟨y0, y1, y2, y3⟩ := blk4 HY2.out
    have hl1 := HX2.out.lt
    have hl2 := HY2.out.lt
    go_wp2_with fail
    go_ret
    exact ⟨ret_b HF.out, HB2.out⟩
  ·have H1 := Lib.hid h1
   have HF : Hid (false = q) := by
    show _ = _
    rw [<- HQ.out]
    exact (decide_eq_false fun e => h1 (by injection e)).symm
   clear h0 h1
   go_enter Tryz.func47, Tryz.ntmps47
   go_wp2_with fail
   refine (equalL_at sA sl sn sc LS.out.n FS.out.n tA tl tn tc LT.out.n FT.out.n _ HS.out.ls HT.out.ls false (decide_eq_false H1.out)).mono ?_
   rintro e w1 ⟨rfl, hgb⟩
   have hb := hgb.below
   clear hgb
   have HB1 := Lib.hid (below_next HB0.out (by have := HB0.out.size; omega) hb)
   have HX1 := Lib.hid (Blk.below HX0.out hb HX0.out.lt)
   have HY1 := Lib.hid (Blk.below HY0.out hb HY0.out.lt)
   have HS1 := Lib.hid (HS.out.below hb)
   have HT1 := Lib.hid (HT.out.below hb)
   clear hb x0 x1 x2 x3 y0 y1 y2 y3 hl1 hl2
   obtain ⟨x0, x1, x2, x3⟩ := blk4 HX1.out
   obtain ⟨y0, y1, y2, y3⟩ := blk4 HY1.out
   have hl1 := HX1.out.lt
   have hl2 := HY1.out.lt
   go_wp2_with fail
   go_ret
   exact ⟨ret_b HF.out, HB1.out⟩
 ·have d0 : (se == te) = false := beq_eq_false_iff_ne.2 h0
  have HF : Hid (false = q) := by
   show _ = _
   rw [<- HQ.out]
   exact (decide_eq_false fun e => h0 (by injection e)).symm
  clear h0
  go_enter Tryz.func47, Tryz.ntmps47
  go_wp2_with fail
  go_ret
  exact ⟨ret_b HF.out, HB0.out⟩
end Go.Proofs.YtaglnncihmohfaaGreat
namespace Go.Proofs.YtaglnncihmohfaaGreat
open Go.RowKit Go.Sort Spans Tb
section
variable {P : Program} {md : Region.Mode} {ops : Array Oper} {Q : Exit -> Act -> World -> Prop} {S : World -> Prop}
theorem wpAnyH_pr {i j : Nat} {oi oj : Oper} {fuel : Nat} {listed : Array Bool} {a : Act} {w : World} (hr : Region.ready md ops listed = [i, j]) (hi : ops.toList[i]? = some oi) (hj : ops.toList[j]? = some oj)
  (hw : Region.wanted oi (yielded ops a.tmps) = true) (hw' : Region.wanted oj (yielded ops a.tmps) = true)
  (h : ∀ K : Act -> World -> Prop, Hid (∀ a w, S w -> wpAnyH P md ops Q S fuel (listed.setIfInBounds i true) a w -> K a w) -> Oper.wp P oi a w K Q)
  (h' : ∀ K : Act -> World -> Prop, Hid (∀ a w, S w -> wpAnyH P md ops Q S fuel (listed.setIfInBounds j true) a w -> K a w) -> Oper.wp P oj a w K Q) : wpAnyH P md ops Q S (fuel + 1) listed a w := by
 refine wpAnyH_ready hr (by simp) (AllReadyH.cons (by simpa using hi) (fun K hK => ?_) (AllReadyH.cons (by simpa using hj) (fun K hK => ?_) AllReadyH.nil))
 ·rw [if_pos hw]
  exact h K (fun a w hS hW => hK.out a w hS (fun _ => hW))
 ·rw [if_pos hw']
  exact h' K (fun a w hS hW => hK.out a w hS (fun _ => hW))
end
theorem own_other {α β : Type} {L : Lay α} {M : Lay β} (hLM : L.T ≠ M.T) {w w' : World} {base base' : Nat} {v u : Value} {es : List α} {fs : List β} (h : OwnK M w base u fs) (hv : OwnK L w base' v es) (hg : w.grownBy w' v.ownBlock) : OwnK M w' base u fs := by
 refine ⟨h.1, ?_⟩
 rcases h.2 with h2 | ⟨g, cap, cur, hu, hbg, hh, r⟩
 ·exact .inl h2
 ·refine .inr ⟨g, cap, cur, hu, hbg, (hg.block g (Array.getElem?_eq_some_iff.1 hh).1 (fun e => ?_)).trans hh, r⟩
  rcases hv.2 with ⟨rfl, _⟩ | ⟨g', cap', cur', rfl, _, hh', _⟩
  ·simp [Value.ownBlock] at e
  ·simp [Value.ownBlock] at e
   subst e
   rw [hh] at hh'
   injection hh' with e1
   injection e1 with _ e2
   exact hLM e2.symm
theorem flt_other {w w' : World} {base base' : Nat} {v : Value} {es : List Ex} {x : Ex} (h : FltO w base x) (hv : OwnK layE w base' v es) (hg : w.grownBy w' v.ownBlock) : FltO w' base x :=
 ⟨h.1, h.2.1, own_other (by decide) h.2.2 hv hg⟩
theorem make_ents (n : Nat) (hn : n <= 100000) : ∃ Z : Array Value, Z.size = n * 3 /\ ∀ W : World, (Instr.makeSlice 40 (.int .i64 0) (.int .i64 (n : Int))).run Tryz.prog W = .ok (.slice (some ⟨W.heap.size, 0, none⟩) 0 n) (W.alloc (.cells Z 57)) := by
 obtain ⟨i, hi, hz, hs, hby⟩ := Lay.has layE
 refine ⟨madeCells (Value.agg layE.zero).cells (n * 3), size_madeCells _ _, fun W => ?_⟩
 have h := run_make (P := Tryz.prog) W 40 57 i _ Tryz.underlying40 hi hz .i64 .i64 0 n (by omega) (by omega) (by rw [hby]; show (40 : Int) * n <= _; omega) (by omega)
 rw [hs, show layE.k = 3 from rfl] at h
 simpa using h
theorem own_made0 {W : World} {base : Nat} {Z : Array Value} {n : Nat} (hZ : Z.size = n * 3) (hb : base <= W.heap.size) (hn : n <= maxLen) : OwnK layE (W.alloc (.cells Z 57)) base (.slice (some ⟨W.heap.size, 0, none⟩) 0 n) ([] : List Ex) :=
 ⟨by simp, .inr ⟨W.heap.size, n, Z, rfl, hb, heap_alloc_new _ _, Nat.zero_le _, hn, hZ, by simp⟩⟩
def GivesEs (w : World) (es : List En) (e : Ending) (w' : World) : Prop := ∃ (ys : List Ex) (B : Option Addr) (m d : Nat), e = .returned (.slice B m d) /\ ys.length = m /\ m <= d /\ ys.map Ex.en = es /\ OwnEn w' w.heap.size (.slice B m d) ys /\ Below w.heap.size w w'
theorem copyEnts_at (A : Option Addr) (es : List Ex) (n c : Nat) (hn : es.length = n) (hm : n <= 100000) (hs : Short es) (w : World) (hr : RdEn w A es) :
  Calls Tryz.prog 79 #[.slice A n c] w (GivesEs w (es.map Ex.en)) := by
 have HN := Lib.hid hn
 have HR := Lib.hid hr
 have HS := Lib.hid hs
 obtain ⟨Z, hZ, hmk⟩ := make_ents n hm
 have hB0 : Below w.heap.size w (w.alloc (.cells Z 57)) := (gr1 w (.cells Z 57)).below
 have HB0 := Lib.hid hB0
 have HO0 := Lib.hid (own_made0 (W := w) (base := w.heap.size) hZ (Nat.le_refl _) (by rw [maxLen_num]; omega))
 have hw0 : (0 : Int) <= (n : Int) := by omega
 clear hn hr hs hB0 hZ
 go_enter Tryz.func79, Tryz.ntmps79
 go_wp2_with fail
 clear hmk
 generalize w.alloc (.cells Z 57) = w0 at *
 go_loopg [3, 11] n (fun gg s3 s11 wr => ∃ (k : Nat) (ys : List Ex) (B : Option Addr) (d : Nat), k <= n /\ n - k <= gg /\ s11 = .int .i64 (k : Int) /\ s3 = .slice B k d /\ k <= d /\ Hid (ys.length = k) /\ Hid (ys.map Ex.en = (es.take k).map Ex.en) /\ Hid (OwnEn wr w.heap.size (.slice B k d) ys) /\ Hid (Below w.heap.size w wr))
 case atStart => exact ⟨0, [], _, n, Nat.zero_le _, by omega, rfl, rfl, Nat.zero_le _, rfl, by show _ = _; simp, ⟨HO0.out, fun x hx => by cases hx⟩, HB0⟩
 case round =>
  obtain ⟨k, ys, B, d, hk, hgg, rfl, rfl, hkd, HL, HM, HO, HB⟩ := hrel
  clear HB0 HO0
  by_cases hlt : k < n
  ·have hk' : k < es.length := by rw [HN.out]; exact hlt
   obtain ⟨g, off, rfl, hg, c0, c1, c2, hf⟩ := RdEn.at3 (HR.out.below HB.out) hk'
   have hsx := HS.out _ (List.getElem_mem hk')
   obtain ⟨x, hx⟩ : ∃ x, es[k] = x := ⟨_, rfl⟩
   have HX := Lib.hid hx
   rw [hx] at c0 c1 c2 hf hsx
   clear hx
   obtain ⟨xi, xr, xA, xn, xc, xf⟩ := x
   obtain ⟨hf1, hf2, hf3⟩ := hf
   dsimp only at c0 c1 c2 hsx hf1 hf2 hf3
   have w5 : (k : Int) < (n : Int) := by omega
   have hbA : Below wr.heap.size wr (wr.alloc (.cells #[.int .i64 xi, .int .i64 xr, .slice xA xn xc] 57)) := (gr1 wr (.cells #[.int .i64 xi, .int .i64 xr, .slice xA xn xc] 57)).below
   have HB1 := Lib.hid (below_next HB.out (Nat.le_refl _) hbA)
   have HO1 := Lib.hid (HO.out.below hbA)
   have HRX := Lib.hid (RdK.below hf3 hbA)
   have HF1 := Lib.hid hf1
   clear hbA hf1 hf3
   go_wp2_with fail
   refine (copyEntry_at xi xr xA xn xc xf HF1.out hsx _ HRX.out).mono ?_
   rintro e w2 ⟨⟨yi, yr, yA, yn, yc, yf⟩, rfl, hye, hfl, hb2⟩
   have HB2 := Lib.hid (below_next HB1.out (by have := HB1.out.size; omega) hb2)
   have HO2 := Lib.hid (HO1.out.below hb2)
   have HFL := Lib.hid (hfl.less HB1.out.size)
   have HYE := Lib.hid hye
   have hb3 : Below w2.heap.size w2 (w2.alloc (.cells #[.int .i64 yi, .int .i64 yr, .slice yA yn yc] 57)) := (gr1 w2 (.cells #[.int .i64 yi, .int .i64 yr, .slice yA yn yc] 57)).below
   have hB3 := below_next HB2.out (Nat.le_refl _) hb3
   have HO3 := Lib.hid (HO2.out.below hb3)
   have hO3 := HO3.out.1
   have HFL3 := Lib.hid (HFL.out.below hb3)
   have hr3 := rdk_one layE w2 ⟨yi, yr, yA, yn, yc, yf⟩ 57 #[.int .i64 yi, .int .i64 yr, .slice yA yn yc] rfl
   have hs3 := hB3.size
   clear hb2 hb3 hfl hye c0 c1 c2 HRX HB1 HB2 HO1 HO2 HO HB HFL
   go_wp2_with (at_builtin; refine wpList_append_k layE (by rfl) (.tmp 15) (.tmp 18) 40 underE rfl w.heap.size _ ys (by rfl) hO3 _ [⟨yi, yr, yA, yn, yc, yf⟩] 1 1 (by rfl) hr3 rfl (by rw [maxLen_num, HL.out]; omega) (by show (ys.length + 1) * 40 <= _; rw [HL.out]; omega) hs3 ?_; intro v6 w6 ho6 hB6' hg6' hl6'; have hlen : (ys ++ [(⟨yi, yr, yA, yn, yc, yf⟩ : Ex)]).length = k + 1 := (by rw [List.length_append, HL.out]; rfl); obtain ⟨A9, c9, hv9, hc9, hr9⟩ := OwnK.form ho6 hlen; subst hv9)
   have HB6 := Lib.hid (hB6' w hB3)
   have HL6 := Lib.hid hlen
   have HO6 : Hid (OwnEn w6 w.heap.size (.slice A9 (k + 1) c9) (ys ++ [⟨yi, yr, yA, yn, yc, yf⟩])) := by
    refine ⟨ho6, fun z hz => ?_⟩
    rcases List.mem_append.1 hz with h | h
    ·exact flt_other (HO3.out.2 z h) hO3 hg6'
    ·simp at h; subst h; exact flt_other HFL3.out hO3 hg6'
   have HM6 : Hid ((ys ++ [(⟨yi, yr, yA, yn, yc, yf⟩ : Ex)]).map Ex.en = (es.take (k + 1)).map Ex.en) := by
    show _ = _
    rw [map_snoc _ hk', HX.out, List.map_append, HM.out]
    have := HYE.out
    simp only [List.map_cons, List.map_nil]
    rw [this]
   clear hB6' hg6' hl6' ho6 hlen hr9 hr3 hO3 hB3 hs3 HO3 HFL3 HYE HL HM HX
   go_wp2_with fail
   go_roundg (n - (k + 1))
   case measure => omega
   case rel => exact ⟨k + 1, _, A9, c9, by omega, Nat.le_refl _, by go_num, rfl, hc9, HL6, HM6, HO6, HB6⟩
  ·have hkn : k = n := by omega
   subst hkn
   go_wp2_with fail
   go_ret
   refine ⟨ys, B, k, d, rfl, HL.out, hkd, ?_, HO.out, HB.out⟩
   have := HM.out
   rwa [List.take_of_length_le (by rw [HN.out]; exact Nat.le_refl _)] at this
def GivesSt (w : World) (b : Bk) (e : Ending) (w' : World) : Prop := ∃ t : Sx, e = .returned t.v /\ t.bk = b /\ t.Len /\ t.Own w' w.heap.size /\ Below w.heap.size w w'
def GivesSt2 (w : World) (b : Bk) (e : Ending) (w' : World) : Prop := ∃ t : Sx, e = .returned t.v /\ t.bk = b /\ t.Len /\ t.Own w' w.heap.size /\ Below w.heap.size w w' /\ ∀ k, (Value.slice t.A1 t.n1 t.c1).ownBlock = some k -> (Value.slice t.A2 t.n2 t.c2).ownBlock ≠ some k
theorem copySt2_at (s : Sx) (ln : s.Len) (fw : s.Few) (w : World) (hr : s.Rd w) :
  Calls Tryz.prog 35 #[s.v] w (GivesSt2 w s.bk) := by
 obtain ⟨ep, A, n, c, ls, A1, n1, c1, av, A2, n2, c2, su⟩ := s
 have LN := Lib.hid ln
 have FW := Lib.hid fw
 have hn : n <= 100000 := fw.n
 have hB0 := (gr2 w (.cells #[.int .i64 ep, .slice A n c, .slice A1 n1 c1, .slice A2 n2 c2] 42) (.cells #[.int .i64 0, .slice none 0 0, .slice none 0 0, .slice none 0 0] 42)).below
 have hX0 := (Blk.new w 42 #[.int .i64 ep, .slice A n c, .slice A1 n1 c1, .slice A2 n2 c2]).alloc (.cells #[.int .i64 0, .slice none 0 0, .slice none 0 0, .slice none 0 0] 42)
 have hY0 := Blk.new (w.alloc (.cells #[.int .i64 ep, .slice A n c, .slice A1 n1 c1, .slice A2 n2 c2] 42)) 42 #[.int .i64 0, .slice none 0 0, .slice none 0 0, .slice none 0 0]
 rw [show (w.alloc (.cells #[.int .i64 ep, .slice A n c, .slice A1 n1 c1, .slice A2 n2 c2] 42)).heap.size = w.heap.size + 1 by simp] at hY0
 have hR0 := hr.below hB0
 have hs0 : ((w.alloc (.cells #[.int .i64 ep, .slice A n c, .slice A1 n1 c1, .slice A2 n2 c2] 42)).alloc (.cells #[.int .i64 0, .slice none 0 0, .slice none 0 0, .slice none 0 0] 42)).heap.size = w.heap.size + 2 := by simp
 clear ln fw hr
 go_enter Tryz.func35, Tryz.ntmps35
 go_wp2_with fail
 generalize (w.alloc (.cells #[.int .i64 ep, .slice A n c, .slice A1 n1 c1, .slice A2 n2 c2] 42)).alloc (.cells #[.int .i64 0, .slice none 0 0, .slice none 0 0, .slice none 0 0] 42) = w0 at *
 have hS0 : Blk w0.drew w.heap.size 42 #[.int .i64 ep, .slice A n c, .slice A1 n1 c1, .slice A2 n2 c2] := hX0
 refine wp_region_held_drew (S := fun w' => Blk w' w.heap.size 42 #[.int .i64 ep, .slice A n c, .slice A1 n1 c1, .slice A2 n2 c2]) (by kernel_rfl) hS0 (fun _ => ?_)
 refine wq 0 3 (v := ?_) rfl rfl (by kernel_rfl) (fun _ _ _ h => h) (by rfl) ?_ hS0 ?_
 rotate_left
 ·intro w' hSw; obtain ⟨r0, r1, r2, r3, _⟩ := blk4 hSw; go_simp <;> with_reducible rfl
 simp only [Act.put, zu0, zu1, zu2]
 refine wq 1 4 (v := ?_) rfl rfl (by kernel_rfl) (fun _ _ _ h => h) (by rfl) ?_ hS0 ?_
 rotate_left
 ·intro w' hSw; obtain ⟨r0, r1, r2, r3, _⟩ := blk4 hSw; go_simp <;> with_reducible rfl
 simp only [Act.put, zu0, zu1, zu2]
 refine wq 2 5 (v := ?_) rfl rfl (by kernel_rfl) (fun _ _ _ h => h) (by rfl) ?_ hS0 ?_
 rotate_left
 ·intro w' hSw; obtain ⟨r0, r1, r2, r3, _⟩ := blk4 hSw; go_simp <;> with_reducible rfl
 simp only [Act.put, zu0, zu1, zu2]
 refine wq 3 6 (v := ?_) rfl rfl (by kernel_rfl) (fun _ _ _ h => h) (by rfl) ?_ hS0 ?_
 rotate_left
 ·intro w' hSw; obtain ⟨r0, r1, r2, r3, _⟩ := blk4 hSw; go_simp <;> with_reducible rfl
 simp only [Act.put, zu0, zu1, zu2]
 refine wq 5 8 (v := ?_) rfl rfl (by kernel_rfl) (fun _ _ _ h => h) (by rfl) ?_ hS0 ?_
 rotate_left
 ·intro w' hSw; obtain ⟨r0, r1, r2, r3, _⟩ := blk4 hSw; go_simp <;> with_reducible rfl
 simp only [Act.put, zu0, zu1, zu2]
 refine wq 6 9 (v := ?_) rfl rfl (by kernel_rfl) (fun _ _ _ h => h) (by rfl) ?_ hS0 ?_
 rotate_left
 ·intro w' hSw; obtain ⟨r0, r1, r2, r3, _⟩ := blk4 hSw; go_simp <;> with_reducible rfl
 simp only [Act.put, zu0, zu1, zu2]
 refine wq 8 11 (v := ?_) rfl rfl (by kernel_rfl) (fun _ _ _ h => h) (by rfl) ?_ hS0 ?_
 rotate_left
 ·intro w' hSw; obtain ⟨r0, r1, r2, r3, _⟩ := blk4 hSw; go_simp <;> with_reducible rfl
 simp only [Act.put, zu0, zu1, zu2]
 refine wq 9 12 (v := ?_) rfl rfl (by kernel_rfl) (fun _ _ _ h => h) (by rfl) ?_ hS0 ?_
 rotate_left
 ·intro w' hSw; obtain ⟨r0, r1, r2, r3, _⟩ := blk4 hSw; go_simp <;> with_reducible rfl
 simp only [Act.put, zu0, zu1, zu2]
 have HR : Hid (Sx.Rd w0.drew ⟨ep, A, n, c, ls, A1, n1, c1, av, A2, n2, c2, su⟩) := hR0.below (by exact (Below.refl _ _).drew)
 have HY : Hid (Blk w0.drew (w.heap.size + 1) 42 #[.int .i64 0, .slice none 0 0, .slice none 0 0, .slice none 0 0]) := hY0
 have HB : Hid (Below w.heap.size w w0.drew) := hB0.drew
 have hs1 : w.heap.size + 2 <= w0.drew.heap.size := by have : w0.drew.heap.size = w0.heap.size := rfl; omega
 have HX := Lib.hid hS0
 clear hR0 hY0 hB0 hX0 hs0 hS0
 generalize w0.drew = w1 at *
 refine wpAnyH_one (i := 4) (by kernel_rfl) rfl (by rfl) (fun K hK => ?_)
 have hO0 : OwnLk w1 w1.heap.size (.slice none 0 0) [] := OwnK.none_ _ _
 refine op_append_k layL (.const (.slice none 0 0)) (.tmp 6) 39 underL (by rfl) w1.heap.size (.slice none 0 0) [] (by rfl) hO0 A ls n c (by rfl) HR.out.ls LN.out.n (by rw [maxLen_num]; simp; omega) (by show (0 + n) * 24 <= _; omega) (Nat.le_refl _) ?_
 intro v2 w2 ho2 hb2
 rw [List.nil_append] at ho2
 have hb : Below w1.heap.size w1 w2 := hb2 w1 (Below.refl _ _)
 obtain ⟨B0, d0, hv2, hd0, _⟩ := OwnK.form ho2 LN.out.n
 subst hv2
 have HL := Lib.hid (ho2.less (show w.heap.size + 2 <= _ by omega))
 replace HR := Lib.hid (HR.out.below hb)
 replace HY := Lib.hid (Blk.below HY.out hb HY.out.lt)
 replace HB := Lib.hid (below_next HB.out (by have := HB.out.size; omega) hb)
 replace hs1 : w.heap.size + 2 <= w2.heap.size := Nat.le_trans hs1 hb.size
 replace HX := Lib.hid (Blk.below HX.out hb HX.out.lt)
 clear hb2 hO0 ho2 hb
 refine hK.out _ _ HX.out ?_
 clear hK
 simp only [Act.put, zu0, zu1, zu2]
 refine wpAnyH_one (i := 7) (by kernel_rfl) rfl (by rfl) (fun K hK => ?_)
 go_simp
 with_reducible refine (copyEnts_at A1 av n1 c1 LN.out.n1 FW.out.n1 FW.out.av w2 HR.out.av).mono ?_
 rintro e w3 ⟨yv, B1, m1, d1, rfl, hm1, hd1, hy1, ho1, hb⟩
 have HA := Lib.hid (ho1.less hs1)
 replace HR := Lib.hid (HR.out.below hb)
 replace HY := Lib.hid (Blk.below HY.out hb HY.out.lt)
 replace HB := Lib.hid (below_next HB.out (by have := HB.out.size; omega) hb)
 replace hs1 : w.heap.size + 2 <= w3.heap.size := Nat.le_trans hs1 hb.size
 replace HX := Lib.hid (Blk.below HX.out hb HX.out.lt)
 replace HL := Lib.hid (OwnK.below HL.out hb)
 have HM1 := Lib.hid hm1
 have HE1 := Lib.hid hy1
 clear hb hm1 hy1 ho1
 go_wp2_with fail
 refine hK.out _ _ HX.out ?_
 clear hK
 refine wpAnyH_one (i := 10) (by kernel_rfl) rfl (by rfl) (fun K hK => ?_)
 go_simp
 with_reducible refine (copyEnts_at A2 su n2 c2 LN.out.n2 FW.out.n2 FW.out.su w3 HR.out.su).mono ?_
 rintro e w4 ⟨yu, B2, m2, d2, rfl, hm2, hd2, hy2, ho2, hb⟩
 have HU := Lib.hid (ho2.less hs1)
 have HSEP : Hid (∀ k, (Value.slice B1 m1 d1).ownBlock = some k -> (Value.slice B2 m2 d2).ownBlock ≠ some k) := fun k h1 h2 => by
  have a := (HA.out.1.lt k h1).2
  have b := ho2.1.base_le k h2
  omega
 replace HR := Lib.hid (HR.out.below hb)
 replace HY := Lib.hid (Blk.below HY.out hb HY.out.lt)
 replace HB := Lib.hid (below_next HB.out (by have := HB.out.size; omega) hb)
 replace hs1 : w.heap.size + 2 <= w4.heap.size := Nat.le_trans hs1 hb.size
 replace HX := Lib.hid (Blk.below HX.out hb HX.out.lt)
 replace HL := Lib.hid (OwnK.below HL.out hb)
 replace HA := Lib.hid (HA.out.below hb)
 have HM2 := Lib.hid hm2
 have HE2 := Lib.hid hy2
 clear hb hm2 hy2 ho2
 go_wp2_with fail
 refine hK.out _ _ HX.out ?_
 clear hK
 refine wq 11 14 (v := ?_) rfl rfl (by kernel_rfl) (fun _ _ _ h => h) (by rfl) ?_ HX.out ?_
 rotate_left
 ·intro w' hSw; obtain ⟨r0, r1, r2, r3, _⟩ := blk4 hSw; go_simp <;> with_reducible rfl
 simp only [Act.put, zu0, zu1, zu2]
 refine wpAnyH_one (i := 12) (by kernel_rfl) rfl (by rfl) (fun K hK => ?_)
 obtain ⟨y0, y1, y2, y3, q0, q1, q2, q3⟩ := blk4 HY.out
 have hly := HY.out.lt
 go_simp
 have hX3 : Blk ((((w4.setCell ⟨w.heap.size + 1, 0, none⟩ (.int .i64 ep)).setCell ⟨w.heap.size + 1, 1, none⟩ (.slice B0 n d0)).setCell ⟨w.heap.size + 1, 2, none⟩ (.slice B1 m1 d1)).setCell ⟨w.heap.size + 1, 3, none⟩ (.slice B2 m2 d2)) w.heap.size 42 #[.int .i64 ep, .slice A n c, .slice A1 n1 c1, .slice A2 n2 c2] := Blk.far4 HX.out (by omega) _ _ _ _
 refine hK.out _ _ hX3 ?_
 clear hK K
 refine wpAnyH_done (by kernel_rfl) ?_ _
 go_wp2_with fail
 refine bodyPost_ret (v := Sx.v ⟨ep, B0, n, d0, ls, B1, m1, d1, yv, B2, m2, d2, yu⟩) (by simp [results, Tryz.results35, go_sem, y0, y1, y2, y3]) rfl ?_
 refine ⟨⟨ep, B0, n, d0, ls, B1, m1, d1, yv, B2, m2, d2, yu⟩, rfl, ?_, ⟨LN.out.n, hd0, HM1.out, hd1, HM2.out, hd2⟩, ⟨?_, ⟨?_, fun x hx => ?_⟩, ⟨?_, fun x hx => ?_⟩⟩, below_put4 HB.out (Nat.le_succ w.heap.size) _ _ _ _, HSEP.out⟩
 ·show (⟨ep, ls, yv.map Ex.en, yu.map Ex.en⟩ : Bk) = ⟨ep, ls, av.map Ex.en, su.map Ex.en⟩
  rw [HE1.out, HE2.out]
 ·exact (OwnK.put4 HL.out (by omega) _ _ _ _).less (by omega)
 ·exact (OwnK.put4 HA.out.1 (by omega) _ _ _ _).less (by omega)
 ·exact ⟨(HA.out.2 x hx).1, (HA.out.2 x hx).2.1, (OwnK.put4 (HA.out.2 x hx).2.2 (by omega) _ _ _ _).less (by omega)⟩
 ·exact (OwnK.put4 HU.out.1 (by omega) _ _ _ _).less (by omega)
 ·exact ⟨(HU.out.2 x hx).1, (HU.out.2 x hx).2.1, (OwnK.put4 (HU.out.2 x hx).2.2 (by omega) _ _ _ _).less (by omega)⟩
end Go.Proofs.YtaglnncihmohfaaGreat
