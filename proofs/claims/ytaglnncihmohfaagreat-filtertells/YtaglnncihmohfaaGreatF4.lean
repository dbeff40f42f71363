/- Contracts of the program and of the document (RowP, RMts, RCov), each used further on. -/
import Derived.Lib.Overlaps
import Derived.Lib.AppendZerosOnto
import Derived.Test.YtaglnncihmohfaaGreatB1
import Derived.Test.YtaglnncihmohfaaGreatD2
import Derived.Test.YtaglnncihmohfaaGreatD3
import Derived.Test.YtaglnncihmohfaaGreatN1
import Derived.Test.YtaglnncihmohfaaGreatE5
import Derived.Test.YtaglnncihmohfaaGreatF3
set_option maxRecDepth 100000
set_option maxHeartbeats 4000000
namespace Go.Proofs.YtaglnncihmohfaaGreat
open Go.RowKit Go.Sort
section
variable {α : Type} {L : Lay α}
def LieK (L : Lay α) (w : World) (g : Nat) (es : List α) (sp : List Value) : Prop := Blk w g L.T (es.flatMap L.enc ++ sp).toArray
theorem LieK.rd {w : World} {g : Nat} {es : List α} {sp : List Value} (h : LieK L w g es sp) : RdK L w (some ⟨g, 0, none⟩) es :=
 rdk_of_flat h (by
  rw [show (es.flatMap L.enc ++ sp).toArray.toList = es.flatMap L.enc ++ sp from rfl]
  exact List.take_left' (flatL_length es))
theorem liek_of_own {w : World} {base : Nat} {v : Value} {es : List α} (h : OwnK L w base v es) : (v = .slice none 0 0 /\ es = []) ∨ ∃ g cap sp, v = .slice (some ⟨g, 0, none⟩) es.length cap /\ base <= g /\ es.length <= cap /\ cap <= maxLen /\ LieK L w g es sp /\ es.length * L.k + sp.length = cap * L.k := by
 rcases h.2 with ⟨rfl, hn⟩ | ⟨g, cap, cur, rfl, hb, hg, hc, hm, hs, ht⟩
 ·exact .inl ⟨rfl, List.eq_nil_of_length_eq_zero hn⟩
 ·refine .inr ⟨g, cap, cur.toList.drop (es.length * L.k), rfl, hb, hc, hm, ?_, ?_⟩
  ·unfold LieK Blk
   have e : es.flatMap L.enc = cur.toList.take (es.length * L.k) := ht.symm
   rw [e, List.take_append_drop]
   exact hg
  ·have hs' : cur.size = cap * L.k := hs
   have : es.length * L.k <= cap * L.k := Nat.mul_le_mul_right _ hc
   simp; omega
theorem LieK.split {w : World} {g : Nat} {es : List α} {sp : List Value} (h : LieK L w g es sp) (k : Nat) : LieK L w g (es.take k) ((es.drop k).flatMap L.enc ++ sp) := by
 unfold LieK at *
 rw [<- List.append_assoc, <- List.flatMap_append, List.take_append_drop]
 exact h
theorem LieK.below {w w' : World} {g : Nat} {es : List α} {sp : List Value} (h : LieK L w g es sp) (hb : Below w.heap.size w w') : LieK L w' g es sp := Blk.below h hb h.lt
theorem zero_one (L : Lay α) (n : Nat) : ∀ v ∈ (Builtin.zeroCells L.zero n).toList, (∀ u ∈ L.zero.toList, u.oneCell' = true) -> v.oneCell' = true := by
 intro v hv hz
 simp only [Builtin.zeroCells, Array.toList_map, List.mem_map] at hv
 obtain ⟨j, _, rfl⟩ := hv
 have hj : j % L.zero.size < L.zero.size := Nat.mod_lt _ (by rw [L.zlen]; exact L.pos)
 rw [getElem!_pos L.zero _ hj]
 exact hz _ (by simp)
theorem LieK.clear {w : World} {g : Nat} {cs : List α} {sp : List Value} (h : LieK L w g cs sp) (hz1 : ∀ u ∈ L.zero.toList, u.oneCell' = true) (st : TypeId) (hst : Tryz.prog.underlying st = some (.slice L.T)) (i n : Nat) (hn : cs.length = n) (hi : i < n) (c : Nat) :
  ∃ w' sp', (∀ ty, (Builtin.clear_ #[st] ty #[.slice (some ⟨g, i * L.k, none⟩) (n - i) c]).run Tryz.prog w = .ok (.tuple #[]) w') /\ LieK L w' g (cs.take i) sp' /\ Touch g w w' /\ i * L.k + sp'.length = n * L.k + sp.length := by
 subst hn
 obtain ⟨inf, hinf, hzz, hss, hby⟩ := L.has
 have hl : (cs.flatMap L.enc).length = cs.length * L.k := flatL_length cs
 obtain ⟨Z, hZ⟩ : ∃ Z, (Builtin.zeroCells L.zero (cs.length - i)).toList = Z := ⟨_, rfl⟩
 have hZl : Z.length = (cs.length - i) * L.k := by rw [<- hZ]; simp [size_zeroCells, L.zlen]
 have hZ1 : ∀ v ∈ Z, v.oneCell' = true := fun v hv => zero_one L (cs.length - i) v (by rw [hZ]; exact hv) hz1
 have hsum : i * L.k + (cs.length - i) * L.k = cs.length * L.k := by rw [<- Nat.add_mul, Nat.add_sub_cancel' (Nat.le_of_lt hi)]
 have hst1 := run_storeCells_at Tryz.prog g (i * L.k) L.T Z 0 _ w h (by simp only [List.size_toArray, List.length_append, hl, hZl]; omega) hZ1
 have e1 : (cs.flatMap L.enc ++ sp).take (i * L.k) = (cs.take i).flatMap L.enc := by
  have : (cs.take i).flatMap L.enc ++ (cs.drop i).flatMap L.enc = cs.flatMap L.enc := by rw [<- List.flatMap_append, List.take_append_drop]
  rw [<- this, List.append_assoc]
  exact List.take_left' (by rw [flatL_length, List.length_take, Nat.min_eq_left (Nat.le_of_lt hi)])
 have e2 : i * L.k + Z.length = cs.length * L.k := by omega
 obtain ⟨sp', hsp⟩ : ∃ sp', Z ++ (cs.flatMap L.enc ++ sp).drop (cs.length * L.k) = sp' := ⟨_, rfl⟩
 have hst' : (storeCells ⟨g, i * L.k, none⟩ Z).run Tryz.prog w = .ok () (w.setRow g ((cs.take i).flatMap L.enc ++ sp').toArray) := by
  rw [hst1, Nat.add_zero, show ((cs.flatMap L.enc ++ sp).toArray.toList) = cs.flatMap L.enc ++ sp from rfl, e1, e2, List.append_assoc, hsp]
 have hlen : i * L.k + sp'.length = cs.length * L.k + sp.length := by
  rw [<- hsp]
  simp only [List.length_append, List.length_drop, hZl, hl]; omega
 refine ⟨w.setRow g ((cs.take i).flatMap L.enc ++ sp').toArray, sp', fun ty => ?_, setRow_heap w g _ _ _ _ h, touch_setRow w g _, hlen⟩
 obtain ⟨m, hm⟩ : ∃ m, cs.length - i = m + 1 := ⟨cs.length - i - 1, by omega⟩
 have hzv : (zeroValue L.T).run Tryz.prog w = .ok (.agg L.zero) w := by simp [zeroValue, typeInfo, hinf, hzz]
 rw [hm] at hZ ⊢
 simp [Builtin.clear_, run_underlying hst, hzv, Value.cells, hZ, hst']
theorem Touch.own {g : Nat} {w w' : World} (h : Touch g w w') : w.grownBy w' (some g) := ⟨h.os, h.tape, h.output, h.size, fun k hk hne => h.block k hk fun e => hne (by rw [e])⟩
end
end Go.Proofs.YtaglnncihmohfaaGreat
namespace Go.Proofs.YtaglnncihmohfaaGreat
open Go.RowKit Go.Sort Spans Op
theorem rfmeets_at (A : Option Addr) (f : List Pr) (n c : Nat) (hn : f.length = n) (hm : n <= 100) (hl : PBd f) (B : Option Addr) (es : List Ev.At) (m d : Nat) (hes : es.length = m) (hml : m <= maxLen) (hbd : ∀ a ∈ es, a.n.length <= maxLen /\ a.t.length <= maxLen) (w : World) (hr : RdQ w A f) (hr' : RdA w B es) (q : Bool) (hq : Fil.meets f es = q) :
  Calls Tryz.prog 19 #[.slice A n c, .slice B m d] w fun e w' => e = .returned (.bool q) /\ Below w.heap.size w w' := by
 have HN := Lib.hid hn
 have HLL := Lib.hid hl
 have HR := Lib.hid hr
 have HR' := Lib.hid hr'
 have HE := Lib.hid hes
 have HM := Lib.hid hml
 have HBD := Lib.hid hbd
 have HQ := Lib.hid hq
 clear hn hl hr hr' hes hml hbd hq
 go_enter Tryz.func19, Tryz.ntmps19
 go_wp2_with fail
 go_loopg [5] n (fun gg s3 wr => ∃ k : Nat, k <= n /\ n - k <= gg /\ s3 = .int .i64 (k : Int) /\ Hid (Below w.heap.size w wr) /\ Hid (Fil.meets (f.take k) es = true))
 case atStart => exact ⟨0, Nat.zero_le _, by omega, rfl, Below.refl _ _, by show _ = _; simp [Fil.meets]⟩
 case round =>
  obtain ⟨k, hk, hgg, rfl, HB, HA⟩ := hrel
  by_cases hlt : k < n
  ·have hk' : k < f.length := by rw [HN.out]; exact hlt
   have hpl := HLL.out _ (List.getElem_mem hk')
   obtain ⟨g, off, rfl, hg, c0, c1, c2, c3, c4⟩ := RdQ.at5 (RdK.below HR.out HB.out) hk'
   obtain ⟨x, hx⟩ : ∃ x, f[k] = x := ⟨_, rfl⟩
   have HX := Lib.hid hx
   rw [hx] at c0 c1 c2 c3 c4 hpl
   clear hx
   obtain ⟨xn, xo, xk, xi, xt⟩ := x
   obtain ⟨hp1, hp2, hp3, hp4⟩ := hpl
   dsimp only at hp1 hp2 hp3 hp4 c0 c1 c2 c3 c4
   have w5 : (k : Int) < (n : Int) := by omega
   have HRE := Lib.hid (HR'.out.below HB.out)
   obtain ⟨y, hy⟩ : ∃ y, meetsV es xn xo xk xi xt = y := ⟨_, rfl⟩
   have HY := Lib.hid hy
   clear hy
   go_wp2_with fail
   refine (rmeets_is xn xo xk xi xt B es m d _ HE.out HM.out HBD.out (by omega) (by omega) HRE.out y HY.out).mono ?_
   rintro e w2 ⟨rfl, hb2⟩
   have HB2 := Lib.hid (below_next HB.out (Nat.le_refl _) hb2)
   clear hb2 c0 c1 c2 c3 c4 HRE
   cases y with
   | true =>
    have HA2 : Hid (Fil.meets (f.take (k + 1)) es = true) := by
     show _ = _
     rw [List.take_succ_eq_append_getElem hk', HX.out]
     have h1 := HA.out
     unfold Fil.meets at *
     rw [List.all_append, h1]
     simp [HY.out]
    go_wp2_with fail
    go_roundg (n - (k + 1))
    case measure => omega
    case rel => exact ⟨k + 1, by omega, Nat.le_refl _, by go_num, HB2, HA2⟩
   | false =>
    have HF : Hid (q = false) := by
     show _ = _
     rw [<- HQ.out]
     unfold Fil.meets
     rw [List.all_eq_false]
     exact ⟨f[k], List.getElem_mem hk', by rw [HX.out]; simp [HY.out]⟩
    go_wp2_with fail
    go_ret
    exact ⟨by rw [HF.out]; rfl, HB2.out⟩
  ·have hkn : k = n := by omega
   have HF : Hid (q = true) := by
    have h1 := HA.out
    rw [hkn, List.take_of_length_le (by rw [HN.out]; exact Nat.le_refl _), HQ.out] at h1
    exact h1
   clear hkn
   go_wp2_with fail
   go_ret
   exact ⟨by rw [HF.out]; rfl, HB.out⟩
theorem rfput_at (B : Option Addr) (bs : List UInt8) (m d : Nat) (hbs : bs.length = m) (hmb : m <= 1000) (A : Option Addr) (f : List Pr) (n c : Nat) (hn : f.length = n) (hm : n <= 100) (hl : PBd f) (w : World) (hrb : Rd w B bs) (hr : RdQ w A f) :
  Calls Tryz.prog 25 #[.slice B m d, .slice A n c] w fun e w' => ∃ fs, FLaid f fs /\ fs.length <= 8000 /\ LaysR w (bs ++ fs) (m + fs.length) e w' := by
 have HN := Lib.hid hn
 have HLL := Lib.hid hl
 have HR := Lib.hid hr
 have HBS := Lib.hid hbs
 have HRB := Lib.hid hrb
 obtain ⟨q, hq⟩ : ∃ q : Bool, (q = true ↔ Fil.NormIs f f 0) := (Classical.em (Fil.NormIs f f 0)).elim (fun h => ⟨true, fun _ => h, fun _ => rfl⟩) (fun h => ⟨false, fun k => (by cases k), fun k => absurd k h⟩)
 have HQ := Lib.hid hq
 clear hn hl hr hbs hrb hq
 obtain ⟨i0, hi0, hz0, hz1, hz2⟩ := info_parts byte_info
 go_enter Tryz.func25, Tryz.ntmps25
 go_wp2_with fail
 refine (rfright_at A f n c HN.out hm HLL.out w HR.out q HQ.out).mono ?_
 rintro e w1 ⟨rfl, hb⟩
 have BB := Lib.hid hb
 clear hb
 cases q with
 | false =>
  have HNO : Hid (¬ Fil.NormIs f f 0) := fun h => by have := HQ.out.2 h; cases this
  have hO0 := Own.empty w1 w1.heap.size 5 (Nat.le_refl _)
  have hb0 : Below w1.heap.size w1 (w1.alloc (.cells #[] 5)) := (gr1 w1 _).below
  have hr2 := (HRB.out.below BB.out).below hb0
  have hs0 := hb0.size
  go_wp2_with (at_builtin; refine wpList_append_rd rfl (.tmp 10) (.tmp 11) 24 rfl w1.heap.size 5 i0 Tryz.underlying24 hi0 hz0 hz1 hz2 _ [] (by rfl) hO0 B bs m d (by rfl) hr2 HBS.out (by simp; omega) (by simp) ?_; intro v1 w2 hO1 hb1' _ _; have hb1 := hb1' _ hb0)
  rw [List.nil_append] at hO1
  obtain ⟨D, c2, hv, hc, hr4⟩ := hO1.rd
  rw [HBS.out] at hv
  subst hv
  go_ret
  exact ⟨[], .inr ⟨HNO.out, rfl⟩, by simp, D, c2, rfl, below_next BB.out (Nat.le_refl _) hb1, by rw [List.append_nil]; exact hr4⟩
 | true =>
  have HNO : Hid (Fil.NormIs f f 0) := HQ.out.1 rfl
  have h24 : n <= 24 := by obtain ⟨S, L, hg⟩ := HNO.out.good; rw [<- HN.out]; exact hg.len
  obtain ⟨L0, hL0⟩ : ∃ L, m + (Wire.put n).length = L := ⟨_, rfl⟩
  have hp10 := Wire.put_len_le n (by omega)
  have HL0 := Lib.hid hL0
  clear hL0
  go_wp2_with fail
  refine (refPut_at B bs m d n L0 HBS.out HL0.out (by omega) (by omega) _ (HRB.out.below BB.out)).mono ?_
  rintro e w2 ⟨D0, c0, rfl, hb, hr0⟩
  replace BB := Lib.hid (below_next BB.out (Nat.le_refl _) hb)
  have HR0 := Lib.hid hr0
  clear hb hr0
  have hL1 : L0 <= m + 10 := by have := HL0.out; omega
  have HLL0 : Hid ((bs ++ Wire.put n).length = L0) := by show _ = _; rw [List.length_append, HBS.out]; exact HL0.out
  go_wp2_with fail
  go_loopg [5, 6] n (fun gg s3 s4 wr => ∃ (k u cc : Nat) (D : Option Addr), k <= n /\ n - k <= gg /\ s4 = .int .i64 (k : Int) /\ s3 = .slice D u cc /\ u <= m + 10 + 300 * k /\ Hid ((bs ++ (Wire.put n ++ (f.take k).flatMap layOf)).length = u) /\ Hid (Rd wr D (bs ++ (Wire.put n ++ (f.take k).flatMap layOf))) /\ Hid (Below w.heap.size w wr))
  case atStart => exact ⟨0, L0, c0, D0, Nat.zero_le _, by omega, rfl, rfl, by omega, by show _ = _; simpa using HLL0.out, by show Rd _ _ _; simpa using HR0.out, BB.out⟩
  case round =>
   obtain ⟨k, u, cc, D, hk, hgg, rfl, rfl, hu, HU, HRD, HB⟩ := hrel
   by_cases hlt : k < n
   ·have hk' : k < f.length := by rw [HN.out]; exact hlt
    have hpl := HLL.out _ (List.getElem_mem hk')
    obtain ⟨g, off, rfl, hg, c0, c1, c2, c3, c4⟩ := RdQ.at5 (RdK.below HR.out HB.out) hk'
    obtain ⟨x, hx⟩ : ∃ x, f[k] = x := ⟨_, rfl⟩
    have HX := Lib.hid hx
    rw [hx] at c0 c1 c2 c3 c4 hpl
    clear hx
    obtain ⟨xn, xo, xk, xi, xt⟩ := x
    obtain ⟨hp1, hp2, hp3, hp4⟩ := hpl
    dsimp only at hp1 hp2 hp3 hp4 c0 c1 c2 c3 c4
    have w5 : (k : Int) < (n : Int) := by omega
    obtain ⟨L2, hL2⟩ : ∃ L, u + (Preds.lay xn xo xk xi xt).length = L := ⟨_, rfl⟩
    have h300 := Preds.lay_len xn xo xk xi xt hp3 hp4
    have HL2 := Lib.hid hL2
    have hL3 : L2 <= u + 300 := by omega
    clear hL2 h300
    go_wp2_with fail
    refine (rpput_at D _ u cc L2 xn xo xk xi xt HU.out HL2.out (by omega) hp3 hp4 (by omega) (by omega) _ HRD.out).mono ?_
    rintro e w3 ⟨D3, c3x, rfl, hb3, hr3⟩
    have HB3 := Lib.hid (below_next HB.out (Nat.le_refl _) hb3)
    have e3 : bs ++ (Wire.put n ++ (f.take k).flatMap layOf) ++ Preds.lay xn xo xk xi xt = bs ++ (Wire.put n ++ (f.take (k + 1)).flatMap layOf) := by
     rw [List.take_succ_eq_append_getElem hk', HX.out, List.flatMap_append]
     simp [layOf]
    have HU3 : Hid ((bs ++ (Wire.put n ++ (f.take (k + 1)).flatMap layOf)).length = L2) := by show _ = _; rw [<- e3, List.length_append, HU.out]; exact HL2.out
    rw [e3] at hr3
    have HR3 := Lib.hid hr3
    clear hb3 hr3 e3 c0 c1 c2 c3 c4
    go_wp2_with fail
    go_roundg (n - (k + 1))
    case measure => omega
    case rel => exact ⟨k + 1, L2, c3x, D3, by omega, Nat.le_refl _, by go_num, rfl, by omega, HU3, HR3, HB3⟩
   ·have hkn : k = n := by omega
    have HF : Hid (bs ++ (Wire.put n ++ (f.take k).flatMap layOf) = bs ++ fbytes f) := by show _ = _; rw [hkn, List.take_of_length_le (by rw [HN.out]; exact Nat.le_refl _)]; unfold fbytes; rw [HN.out]
    have hfl := fbytes_len HLL.out (by rw [HN.out]; exact h24)
    clear hkn
    go_wp2_with fail
    go_ret
    refine ⟨fbytes f, .inl ⟨HNO.out, rfl⟩, hfl, D, cc, ?_, HB.out, by rw [<- HF.out]; exact HRD.out⟩
    have h1 := HU.out
    rw [HF.out, List.length_append, HBS.out] at h1
    rw [h1]
    rfl
end Go.Proofs.YtaglnncihmohfaaGreat
namespace Go.Proofs.YtaglnncihmohfaaGreat
open Go.RowKit Go.Sort Spans Op
theorem may_sound {f : List Pr} : mayE f = 0 ↔ Fil.Sound f := by
 unfold mayE Fil.Sound
 by_cases h : 24 < f.length
 ·rw [if_pos h]; constructor
  ·intro k; cases k
  ·intro k; omega
 ·rw [if_neg h]
  by_cases h2 : Fil.AllRight f
  ·rw [if_pos h2]; exact ⟨fun _ => ⟨by omega, h2⟩, fun _ => rfl⟩
  ·rw [if_neg h2]; constructor
   ·intro k; cases k
   ·intro k; exact absurd k.2 h2
def TellB (b : Bool) (P : Prop) : Prop := b = true ↔ P
theorem pbd_app {f g : List Pr} (h : PBd f) (k : PBd g) : PBd (f ++ g) := fun p hp => (List.mem_append.1 hp).elim (h p) (k p)
theorem rcrosses_at (A : Option Addr) (f : List Pr) (n c : Nat) (hn : f.length = n) (hm : n <= 45) (hl : PBd f) (A' : Option Addr) (g : List Pr) (n' c' : Nat) (hn' : g.length = n') (hm' : n' <= 45) (hl' : PBd g) (w : World) (hr : RdQ w A f) (hr' : RdQ w A' g) :
  Calls Tryz.prog 23 #[.slice A n c, .slice A' n' c'] w (Tells w (Fil.Cross f g)) := by
 have HN := Lib.hid hn
 have HLL := Lib.hid hl
 have HR := Lib.hid hr
 have HN' := Lib.hid hn'
 have HLL' := Lib.hid hl'
 have HR' := Lib.hid hr'
 obtain ⟨e1, h1⟩ : ∃ er, mayE f = er := ⟨_, rfl⟩
 have HE1 := Lib.hid h1
 obtain ⟨e2, h2⟩ : ∃ er, mayE g = er := ⟨_, rfl⟩
 have HE2 := Lib.hid h2
 obtain ⟨S, hS⟩ := Fil.spans_ex (pbd_bd (pbd_app hl hl'))
 have HS := Lib.hid hS
 obtain ⟨q, hq⟩ : ∃ q, decide (Fil.Void (f ++ g) S) = q := ⟨_, rfl⟩
 have HQ := Lib.hid hq
 clear hn hl hr hn' hl' hr' h1 h2 hS hq
 go_enter Tryz.func23, Tryz.ntmps23
 go_wp2_with fail
 refine (rmay_at A f n c HN.out (by omega) HLL.out w HR.out e1 HE1.out).mono ?_
 rintro e w1 ⟨rfl, hb⟩
 have BB := Lib.hid hb
 clear hb
 go_wp2_with fail
 refine (rmay_at A' g n' c' HN'.out (by omega) HLL'.out w1 (RdK.below HR'.out BB.out) e2 HE2.out).mono ?_
 rintro e w2 ⟨rfl, hb⟩
 replace BB := Lib.hid (below_next BB.out (Nat.le_refl _) hb)
 clear hb
 have hb0 : Below w2.heap.size w2 (w2.alloc (.cells #[] 35)) := (gr1 w2 _).below
 have hO0 : OwnQ (w2.alloc (.cells #[] 35)) w2.heap.size (.slice (some ⟨w2.heap.size, 0, none⟩) 0 0) [] := OwnK.empty w2 w2.heap.size (Nat.le_refl _)
 have hR0 := RdK.below HR.out (below_next BB.out (Nat.le_refl _) hb0)
 have hG0 := RdK.below HR'.out (below_next BB.out (Nat.le_refl _) hb0)
 have hs0 := hb0.size
 go_wp2_with (first | (at_builtin; refine wpList_append_k layP (by rfl) (.tmp 13) (.tmp 14) 22 underQ rfl w2.heap.size _ [] (by rfl) hO0 A f n c (by rfl) hR0 HN.out (by rw [maxLen_num]; simp only [List.length_nil]; omega) (by simp only [layP, List.length_nil]; omega) hs0 ?_; intro v1 w3 o1 b1 g1 l1; rw [List.nil_append] at o1; have hB1 := b1 w2 hb0; have hG1 := RdK.below HR'.out (below_next BB.out (Nat.le_refl _) hB1); have hs1 := hB1.size; clear b1 g1 l1 hO0 hR0 hG0 hb0 hs0) | (at_builtin; refine wpList_append_k layP (by rfl) (.tmp 15) (.tmp 16) 22 underQ rfl w2.heap.size _ f (by rfl) o1 A' g n' c' (by rfl) hG1 HN'.out (by rw [maxLen_num, HN.out]; omega) (by simp only [layP]; rw [HN.out]; omega) hs1 ?_; intro v2 w4 o2 b2 g2 l2; have hB2 := b2 w2 hB1; have hl2 : (f ++ g).length = n + n' := (by rw [List.length_append, HN.out, HN'.out]); obtain ⟨B, d, hv2, hd, hr2⟩ := OwnK.form o2 hl2; subst hv2; clear b2 g2 l2 o1 hG1 hB1 hs1))
 replace BB := Lib.hid (below_next BB.out (Nat.le_refl _) hB2)
 have HRA := Lib.hid hr2
 have HLA := Lib.hid hl2
 have HPA := Lib.hid (pbd_app HLL.out HLL'.out)
 clear hB2 hr2 hl2 o2
 refine (rnames_at B (f ++ g) (n + n') d HLA.out (by omega) (fun p hp => by have := (HPA.out p hp).1; omega) w4 HRA.out).mono ?_
 rintro e w5 ⟨L, B5, m, d5, rfl, hL, hlm, hmn, hmd, hoL, hb⟩
 have HLN := Lib.hid hL
 have HM := Lib.hid hlm
 have HB5 := Lib.hid hb
 clear hL hlm hoL hb
 have HX : Hid (Fil.Cross f g ↔ e1 = 0 /\ e2 = 0 /\ m <= 24 /\ q = false) := by
  show _ ↔ _
  rw [Fil.cross_with HS.out HLN.out, <- may_sound, <- may_sound, HE1.out, HE2.out, HM.out, <- HQ.out, decide_eq_false_iff_not]
 by_cases z1 : e1 = 0
 ·have v1 : (e1 == 0) = true := beq_iff_eq.2 z1
  by_cases z2 : e2 = 0
  ·have v2 : (e2 == 0) = true := beq_iff_eq.2 z2
   obtain ⟨y, hy⟩ : ∃ y, decide ((m : Int) <= 24) = y := ⟨_, rfl⟩
   have HY := Lib.hid hy
   go_wp2_with fail
   refine (rvoid_at B (f ++ g) (n + n') d HLA.out (by omega) HPA.out w5 (RdK.below HRA.out HB5.out) S HS.out q HQ.out).mono ?_
   rintro e w6 ⟨rfl, hb⟩
   have BZ := Lib.hid (below_next BB.out (Nat.le_refl _) (below_next HB5.out (Nat.le_refl _) hb))
   clear hb
   cases q with
   | true =>
    go_wp2_with fail
    go_ret
    exact tells_no (fun h => by have := (HX.out.1 h).2.2.2; cases this) BZ.out
   | false =>
    go_wp2_with fail
    go_ret
    refine ⟨y, rfl, ⟨fun h => HX.out.2 ⟨z1, z2, ?_, (by first | rfl | trivial)⟩, fun h => ?_⟩, BZ.out⟩
    ·rw [h] at hy; have := of_decide_eq_true hy; omega
    ·rw [<- hy]; have := (HX.out.1 h).2.2.1; exact decide_eq_true (by omega)
  ·have v2 : (e2 == 0) = false := beq_eq_false_iff_ne.2 z2
   go_wp2_with fail
   go_ret
   exact tells_no (fun h => z2 (HX.out.1 h).2.1) (below_next BB.out (Nat.le_refl _) HB5.out)
 ·have v1 : (e1 == 0) = false := beq_eq_false_iff_ne.2 z1
  go_wp2_with fail
  go_ret
  exact tells_no (fun h => z1 (HX.out.1 h).1) (below_next BB.out (Nat.le_refl _) HB5.out)
theorem rcovers_at (A : Option Addr) (f : List Pr) (n c : Nat) (hn : f.length = n) (hm : n <= 45) (hl : PBd f) (A' : Option Addr) (g : List Pr) (n' c' : Nat) (hn' : g.length = n') (hm' : n' <= 45) (hl' : PBd g) (w : World) (hr : RdQ w A f) (hr' : RdQ w A' g) :
  Calls Tryz.prog 21 #[.slice A n c, .slice A' n' c'] w (Tells w (Fil.Cov f g)) := by
 have HN := Lib.hid hn
 have HLL := Lib.hid hl
 have HR := Lib.hid hr
 have HN' := Lib.hid hn'
 have HLL' := Lib.hid hl'
 have HR' := Lib.hid hr'
 obtain ⟨e1, h1⟩ : ∃ er, mayE f = er := ⟨_, rfl⟩
 have HE1 := Lib.hid h1
 obtain ⟨e2, h2⟩ : ∃ er, mayE g = er := ⟨_, rfl⟩
 have HE2 := Lib.hid h2
 obtain ⟨S, hS⟩ := Fil.spans_ex (pbd_bd hl)
 have HS := Lib.hid hS
 obtain ⟨T, hT⟩ := Fil.spans_ex (pbd_bd hl')
 have HT := Lib.hid hT
 obtain ⟨q, hq⟩ : ∃ q, decide (Fil.Void g T) = q := ⟨_, rfl⟩
 have HQ := Lib.hid hq
 have HX : Hid (Fil.Cov f g ↔ e1 = 0 /\ e2 = 0 /\ (q = true ∨ ∀ n, Fil.Asked f n -> Fil.Asked g n /\ inn (T n) (S n) = true)) := by
  show _ ↔ _
  rw [Fil.cov_with hS hT, <- may_sound, <- may_sound, h1, h2, <- hq, decide_eq_true_iff]
 clear hn hl hr hn' hl' hr' h1 h2 hS hT hq
 go_enter Tryz.func21, Tryz.ntmps21
 go_wp2_with fail
 refine (rmay_at A f n c HN.out (by omega) HLL.out w HR.out e1 HE1.out).mono ?_
 rintro e w1 ⟨rfl, hb⟩
 have BB := Lib.hid hb
 clear hb
 go_wp2_with fail
 refine (rmay_at A' g n' c' HN'.out (by omega) HLL'.out w1 (RdK.below HR'.out BB.out) e2 HE2.out).mono ?_
 rintro e w2 ⟨rfl, hb⟩
 replace BB := Lib.hid (below_next BB.out (Nat.le_refl _) hb)
 clear hb
 by_cases z1 : e1 = 0
 ·have v1 : (e1 != 0) = false := by simpa using z1
  by_cases z2 : e2 = 0
  ·have v2 : (e2 != 0) = false := by simpa using z2
   go_wp2_with fail
   refine (rvoid_at A' g n' c' HN'.out (by omega) HLL'.out _ (RdK.below HR'.out BB.out) T HT.out q HQ.out).mono ?_
   rintro e w3 ⟨rfl, hb⟩
   replace BB := Lib.hid (below_next BB.out (Nat.le_refl _) hb)
   clear hb
   cases q with
   | true =>
    go_wp2_with fail
    go_ret
    exact tells_yes (HX.out.2 ⟨z1, z2, .inl (by first | rfl | trivial)⟩) BB.out
   | false =>
    have HX2 : Hid (Fil.Cov f g ↔ ∀ n, Fil.Asked f n -> Fil.Asked g n /\ inn (T n) (S n) = true) := HX.out.trans ⟨fun h => h.2.2.resolve_left (by simp), fun h => ⟨z1, z2, .inr h⟩⟩
    clear z1 z2 v1 v2 HX
    go_wp2_with fail
    refine (rnames_at A f n c HN.out (by omega) (fun p hp => by have := (HLL.out p hp).1; omega) _ (RdK.below HR.out BB.out)).mono ?_
    rintro e w4 ⟨L, B, m, d, rfl, hL, hlm, hmn, hmd, hoL, hb⟩
    have HL := Lib.hid hL
    have HM := Lib.hid hlm
    have RL := Lib.hid (rdz_own hoL)
    replace BB := Lib.hid (below_next BB.out (Nat.le_refl _) hb)
    clear hL hlm hoL hb
    go_wp2_with fail
    go_loopg [8] m (fun gg s8 wr => ∃ k : Nat, k <= m /\ m - k <= gg /\ s8 = .int .i64 (k : Int) /\ Hid (Below w4.heap.size w4 wr) /\ Hid (∀ j (hj : j < L.length), j < k -> Fil.Asked g L[j] /\ inn (T L[j]) (S L[j]) = true))
    case atStart => exact ⟨0, Nat.zero_le _, by omega, rfl, Below.refl _ _, fun j hj h => absurd h (by omega)⟩
    case round =>
     obtain ⟨k, hk, hgg, rfl, HB, HA⟩ := hrel
     by_cases hlt : k < m
     ·have hk' : k < L.length := by rw [HM.out]; exact hlt
      obtain ⟨gb, ob, hB, hgb, b0⟩ := RdTx.at1 RL.out hk'
      subst hB
      obtain ⟨nm, hnm⟩ : ∃ x, L[k] = x := ⟨_, rfl⟩
      have HNM := Lib.hid hnm
      rw [hnm] at b0
      clear hnm
      have w5 : (k : Int) < (m : Int) := by omega
      have HK0 : Hid (∀ w', Below w4.heap.size w4 w' -> w'.cell? ⟨gb, ob + k, none⟩ = some (.string ⟨nm.toArray⟩)) := fun w' hb => (hb.cell (p := ⟨gb, ob + k, none⟩) hgb).trans b0
      clear b0 hgb
      obtain ⟨wo, rfl⟩ : ∃ wo : World, wo = wr := ⟨_, rfl⟩
      go_wp2_with fail
      go_loopg [9, 10] n' (fun g2 s9 s10 wy => ∃ (u : Nat) (b : Bool), u + g2 = n' /\ s10 = .int .i64 (u : Int) /\ s9 = .bool b /\ Hid (Below wo.heap.size wo wy) /\ Hid (TellB b (∃ p ∈ g.take u, p.n = nm)))
      case atStart => exact ⟨0, false, by omega, rfl, rfl, Below.refl _ _, by show TellB _ _; unfold TellB; simp⟩
      case round =>
       obtain ⟨u, b, hug, rfl, rfl, HG, HP⟩ := hrel
       have B2 := Lib.hid (below_next HB.out (Nat.le_refl _) HG.out)
       have z0 := gx_cell (HK0.out _ B2.out)
       cases gk with
       | succ gk =>
        have hu' : u < g.length := by rw [HN'.out]; omega
        obtain ⟨g9, o9, hA9, hg9, y0, _, _, _, _⟩ := RdQ.at5 (RdK.below HR'.out (below_next BB.out (Nat.le_refl _) B2.out)) hu'
        subst hA9
        have y0 := gx_cell y0
        have hi1 : (u : Int) < (n' : Int) := by omega
        cases b with
        | true =>
         have HP2 : Hid (TellB true (∃ p ∈ g.take (u + 1), p.n = nm)) := by
          refine ⟨fun _ => ?_, fun _ => rfl⟩
          obtain ⟨p, hp, e⟩ := HP.out.1 rfl
          exact ⟨p, by rw [List.take_succ_eq_append_getElem hu']; exact List.mem_append_left _ hp, e⟩
         go_wp2_with fail
         (refine qb_region mixedT (by kernel_rfl) ?_; (repeat (refine hq_step (fun K hK => ?_); go_simp; first | (refine hK _ ?_; clear hK K) | (apply Exists.intro; refine ⟨fun _ => ?_, hK _ ?_⟩; (fail); clear hK K))); refine hq_nil ?_; intro _ hw'; obtain ⟨⟨nq, osq⟩, hw''⟩ := hw'; subst hw'')
         have hb := below_gx wr nq osq
         have HG2 := Lib.hid (HG.out.trans (hb.mono HG.out.size))
         go_wp2_with fail
         go_roundg gk
         case measure => omega
         case rel => exact ⟨u + 1, true, by omega, by go_num, rfl, HG2, HP2⟩
        | false =>
         obtain ⟨xn, hxn⟩ : ∃ x, g[u].n = x := ⟨_, rfl⟩
         rw [hxn] at y0
         obtain ⟨z, hz⟩ : ∃ z, decide (xn = nm) = z := ⟨_, rfl⟩
         have HP2 : Hid (TellB z (∃ p ∈ g.take (u + 1), p.n = nm)) := by
          show _ ↔ _
          rw [List.take_succ_eq_append_getElem hu', <- hz, decide_eq_true_iff, <- hxn]
          constructor
          ·intro e; exact ⟨g[u], List.mem_append_right _ (List.mem_singleton_self _), e⟩
          ·rintro ⟨p, hp, e⟩
           rcases List.mem_append.1 hp with hp | hp
           ·have := HP.out.2 ⟨p, hp, e⟩; cases this
           ·simp at hp; rw [<- hp]; exact e
         have hzz : (xn == nm) = z := by rw [<- hz, Bool.eq_iff_iff, beq_iff_eq, decide_eq_true_iff]
         go_wp2_with fail
         (refine qb_region mixedT (by kernel_rfl) ?_; (repeat (refine hq_step (fun K hK => ?_); go_simp; first | (refine hK _ ?_; clear hK K) | (apply Exists.intro; refine ⟨fun _ => ?_, hK _ ?_⟩; (fail); clear hK K))); refine hq_nil ?_; intro _ hw'; obtain ⟨⟨nq, osq⟩, hw''⟩ := hw'; subst hw'')
         have hb := below_gx wr nq osq
         have HG2 := Lib.hid (HG.out.trans (hb.mono HG.out.size))
         go_wp2_with fail
         go_roundg gk
         case measure => omega
         case rel => exact ⟨u + 1, z, by omega, by go_num, rfl, HG2, HP2⟩
       | zero =>
        obtain rfl : n' = u := by omega
        have HP3 : Hid (TellB b (Fil.Asked g nm)) := by
         have h1 := HP.out
         rw [List.take_of_length_le (by rw [HN'.out]; exact Nat.le_refl _)] at h1
         exact h1
        clear HP
        cases b with
        | false =>
         have HNC : Hid (¬ Fil.Cov f g) := fun h => by
          have := HP3.out.2 (HX2.out.1 h nm (HNM.out ▸ names_mem HL.out hk')).1
          cases this
         go_wp2_with fail
         (refine qb_region mixedT (by kernel_rfl) ?_; (repeat (refine hq_step (fun K hK => ?_); go_simp; first | (refine hK _ ?_; clear hK K) | (apply Exists.intro; refine ⟨fun _ => ?_, hK _ ?_⟩; (fail); clear hK K))); refine hq_nil ?_; intro _ hw'; obtain ⟨⟨nq, osq⟩, hw''⟩ := hw'; subst hw'')
         have hb := below_gx wr nq osq
         have B3 := Lib.hid (below_next BB.out (Nat.le_refl _) (below_next B2.out (Nat.le_refl _) hb))
         go_wp2_with fail
         go_ret
         exact tells_no HNC.out B3.out
        | true =>
         have HAG : Hid (Fil.Asked g nm) := HP3.out.1 rfl
         have HAF : Hid (Fil.Asked f nm) := HNM.out ▸ names_mem HL.out hk'
         clear HP3 z0
         have hS0 := HK0.out wr.drew B2.out.drew
         go_wp2_with fail
         refine wp_region_held_drew (S := fun w' => w'.cell? ⟨gb, ob + k, none⟩ = some (.string ⟨nm.toArray⟩)) (by kernel_rfl) hS0 (fun _ => ?_)
         refine wq 0 50 (v := ?_) rfl rfl (by kernel_rfl) (fun _ _ _ h => h) (by rfl) ?_ hS0 ?_
         rotate_left
         ·intro w' hSw; skip; go_simp <;> with_reducible rfl
         simp only [Act.put, zu0, zu1, zu2]
         refine wq 1 51 (v := ?_) rfl rfl (by kernel_rfl) (fun _ _ _ h => h) (by rfl) ?_ hS0 ?_
         rotate_left
         ·intro w' hSw; skip; go_simp <;> with_reducible rfl
         simp only [Act.put, zu0, zu1, zu2]
         refine wq 2 52 (v := ?_) rfl rfl (by kernel_rfl) (fun _ _ _ h => h) (by rfl) ?_ hS0 ?_
         rotate_left
         ·intro w' hSw; skip; go_simp <;> with_reducible rfl
         simp only [Act.put, zu0, zu1, zu2]
         refine wq 3 53 (v := ?_) rfl rfl (by kernel_rfl) (fun _ _ _ h => h) (by rfl) ?_ hS0 ?_
         rotate_left
         ·intro w' hSw; skip; go_simp <;> with_reducible rfl
         simp only [Act.put, zu0, zu1, zu2]
         refine wq 4 54 (v := ?_) rfl rfl (by kernel_rfl) (fun _ _ _ h => h) (by rfl) ?_ hS0 ?_
         rotate_left
         ·intro w' hSw; skip; go_simp <;> with_reducible rfl
         simp only [Act.put, zu0, zu1, zu2]
         refine wq 5 55 (v := ?_) rfl rfl (by kernel_rfl) (fun _ _ _ h => h) (by rfl) ?_ hS0 ?_
         rotate_left
         ·intro w' hSw; skip; go_simp <;> with_reducible rfl
         simp only [Act.put, zu0, zu1, zu2]
         refine wq 6 56 (v := ?_) rfl rfl (by kernel_rfl) (fun _ _ _ h => h) (by rfl) ?_ hS0 ?_
         rotate_left
         ·intro w' hSw; skip; go_simp <;> with_reducible rfl
         simp only [Act.put, zu0, zu1, zu2]
         refine wq 7 57 (v := ?_) rfl rfl (by kernel_rfl) (fun _ _ _ h => h) (by rfl) ?_ hS0 ?_
         rotate_left
         ·intro w' hSw; skip; go_simp <;> with_reducible rfl
         simp only [Act.put, zu0, zu1, zu2]
         refine wq 9 59 (v := ?_) rfl rfl (by kernel_rfl) (fun _ _ _ h => h) (by rfl) ?_ hS0 ?_
         rotate_left
         ·intro w' hSw; skip; go_simp <;> with_reducible rfl
         simp only [Act.put, zu0, zu1, zu2]
         refine wq 10 60 (v := ?_) rfl rfl (by kernel_rfl) (fun _ _ _ h => h) (by rfl) ?_ hS0 ?_
         rotate_left
         ·intro w' hSw; skip; go_simp <;> with_reducible rfl
         simp only [Act.put, zu0, zu1, zu2]
         refine wq 11 61 (v := ?_) rfl rfl (by kernel_rfl) (fun _ _ _ h => h) (by rfl) ?_ hS0 ?_
         rotate_left
         ·intro w' hSw; skip; go_simp <;> with_reducible rfl
         simp only [Act.put, zu0, zu1, zu2]
         refine wq 12 62 (v := ?_) rfl rfl (by kernel_rfl) (fun _ _ _ h => h) (by rfl) ?_ hS0 ?_
         rotate_left
         ·intro w' hSw; skip; go_simp <;> with_reducible rfl
         simp only [Act.put, zu0, zu1, zu2]
         refine wq 13 63 (v := ?_) rfl rfl (by kernel_rfl) (fun _ _ _ h => h) (by rfl) ?_ hS0 ?_
         rotate_left
         ·intro w' hSw; skip; go_simp <;> with_reducible rfl
         simp only [Act.put, zu0, zu1, zu2]
         have HB1 := Lib.hid B2.out.drew
         clear B2 hS0
         generalize wr.drew = x4 at *
         refine wpAnyH_one (i := 8) (by kernel_rfl) rfl (by rfl) (fun K hK => ?_)
         go_simp
         have hlx : ∀ p ∈ g, p.n.length <= 100 /\ p.t.length <= 100 /\ -9223372036854775808 <= p.i /\ p.i <= 9223372036854775807 := HLL'.out
         have hnx := HN'.out
         with_reducible refine (rspanOf_at A' g n' c' nm hnx (by omega) hlx x4 (RdK.below HR'.out (below_next BB.out (Nat.le_refl _) HB1.out))).mono ?_
         rintro e x5 ⟨⟨r1K, r1lo, r1hi, r1f, r1t, r1o, r1no⟩, hall, hrl, A1, n1, c1, rfl, hl7, hc7, ho7, hb7⟩
         dsimp only at hrl hl7 ho7
         have HS1 : Hid (T nm = ⟨r1K, r1lo, r1hi, r1f, r1t, r1o, r1no⟩) := (HT.out nm HAG.out).one hall
         have HC1 := Lib.hid hall.1
         have HL1 := Lib.hid hl7
         have hr7 := rdk_own' ho7
         have R1 := Lib.hid hr7
         have hn1 : n1 <= 100 := by omega
         replace HB1 := Lib.hid (below_next HB1.out (Nat.le_refl _) hb7)
         clear hall hl7 ho7 hr7 hlx hnx hrl
         clear hb7
         go_wp2_with fail
         refine hK.out _ _ (HK0.out _ HB1.out) ?_
         clear hK
         refine wpAnyH_one (i := 14) (by kernel_rfl) rfl (by rfl) (fun K hK => ?_)
         go_simp
         have hlx : ∀ p ∈ f, p.n.length <= 100 /\ p.t.length <= 100 /\ -9223372036854775808 <= p.i /\ p.i <= 9223372036854775807 := HLL.out
         have hnx := HN.out
         with_reducible refine (rspanOf_at A f n c nm hnx (by omega) hlx x5 (RdK.below HR.out (below_next BB.out (Nat.le_refl _) HB1.out))).mono ?_
         rintro e x6 ⟨⟨r2K, r2lo, r2hi, r2f, r2t, r2o, r2no⟩, hall, hrl, A2, n2, c2, rfl, hl7, hc7, ho7, hb7⟩
         dsimp only at hrl hl7 ho7
         have HS2 : Hid (S nm = ⟨r2K, r2lo, r2hi, r2f, r2t, r2o, r2no⟩) := (HS.out nm HAF.out).one hall
         have HC2 := Lib.hid hall.1
         have HL2 := Lib.hid hl7
         have hr7 := rdk_own' ho7
         have R2 := Lib.hid hr7
         have hn2 : n2 <= 100 := by omega
         replace HB1 := Lib.hid (below_next HB1.out (Nat.le_refl _) hb7)
         clear hall hl7 ho7 hr7 hlx hnx hrl
         replace R1 := Lib.hid (RdK.below R1.out hb7)
         clear hb7
         go_wp2_with fail
         refine hK.out _ _ (HK0.out _ HB1.out) ?_
         clear hK
         refine wpAnyH_one (i := 15) (by kernel_rfl) rfl (by rfl) (fun K hK => ?_)
         go_simp
         obtain ⟨y, hy⟩ : ∃ y, inn ⟨r1K, r1lo, r1hi, r1f, r1t, r1o, r1no⟩ ⟨r2K, r2lo, r2hi, r2f, r2t, r2o, r2no⟩ = y := ⟨_, rfl⟩
         have HY := Lib.hid hy
         have hl1 := HL1.out
         have hl2 := HL2.out
         with_reducible refine (rin_at ⟨r1K, r1lo, r1hi, r1f, r1t, r1o, r1no⟩ ⟨r2K, r2lo, r2hi, r2f, r2t, r2o, r2no⟩ HC1.out HC2.out A1 n1 c1 A2 n2 c2 x6 hl1 (by omega) hl2 (by omega) R1.out R2.out y hy).mono ?_
         rintro e x7 ⟨rfl, hb7⟩
         have HB2 := Lib.hid (below_next HB1.out (Nat.le_refl _) hb7.below)
         clear hb7 hy hl1 hl2
         go_wp2_with fail
         refine hK.out _ _ (HK0.out _ HB2.out) ?_
         clear hK
         refine wq 16 66 (v := ?_) rfl rfl (by kernel_rfl) (fun _ _ _ h => h) (by rfl) ?_ (HK0.out _ HB2.out) ?_
         rotate_left
         ·intro w' hSw; skip; go_simp <;> with_reducible rfl
         simp only [Act.put, zu0, zu1, zu2]
         refine wq 17 67 (v := ?_) rfl rfl (by kernel_rfl) (fun _ _ _ h => h) (by rfl) ?_ (HK0.out _ HB2.out) ?_
         rotate_left
         ·intro w' hSw; skip; go_simp <;> with_reducible rfl
         simp only [Act.put, zu0, zu1, zu2]
         refine wpAnyH_done (by kernel_rfl) ?_ _
         clear R1 R2 HB1
         cases y with
         | false =>
          have HNC : Hid (¬ Fil.Cov f g) := fun h => by
           have := (HX2.out.1 h nm HAF.out).2
           rw [HS1.out, HS2.out, HY.out] at this
           cases this
          go_wp2_with fail
          go_ret
          exact tells_no HNC.out (below_next BB.out (Nat.le_refl _) HB2.out)
         | true =>
          have HA2 : Hid (∀ j (hj : j < L.length), j < k + 1 -> Fil.Asked g L[j] /\ inn (T L[j]) (S L[j]) = true) := fun j hj h => by
           rcases Nat.lt_or_ge j k with e | e
           ·exact HA.out j hj e
           ·obtain rfl : j = k := by omega
            rw [HNM.out, HS1.out, HS2.out]; exact ⟨HAG.out, HY.out⟩
          go_wp2_with fail
          go_roundg (m - (k + 1))
          case measure => omega
          case rel => exact ⟨k + 1, by omega, Nat.le_refl _, by go_num, HB2, HA2⟩
     ·have hkm : k = m := by omega
      have HV : Hid (Fil.Cov f g) := HX2.out.2 fun x hx => by
       obtain ⟨j, hj, rfl⟩ := List.getElem_of_mem ((HL.out.2 x).2 hx)
       exact HA.out j hj (by rw [HM.out] at hj; omega)
      clear hkm
      go_wp2_with fail
      go_ret
      exact tells_yes HV.out (below_next BB.out (Nat.le_refl _) HB.out)
  ·have v2 : (e2 != 0) = true := by simpa using z2
   go_wp2_with fail
   go_ret
   exact tells_no (fun h => z2 (HX.out.1 h).2.1) BB.out
 ·have v1 : (e1 != 0) = true := by simpa using z1
  go_wp2_with fail
  go_ret
  exact tells_no (fun h => z1 (HX.out.1 h).1) BB.out
end Go.Proofs.YtaglnncihmohfaaGreat
